import PyProof.Rows.All
import Wide.All
import OpenK.AllK
import Wide.FinOn
import Lean
import PyProof.EqAt
import PyProof.EqKinds
import PyProof.TupleCall
import PyProof.CollectIter
import PyProof.JoinWalk
import PyProof.StrOps
import PyProof.ListOps
import PyProof.StrLawsJoin
import KE.KRevIter
import PyProof.StrLawsFirst
import PyProof.Rows.StrNews2
import PyProof.StrLawsTight
import PyProof.StrLawsChain
import KE.KIntText
import KE.IntTextLaws
import PyProof.ListStr
import KE.KDictLaws
import KE.KDictList
import PyProof.Rows.SetFrom
import PyProof.FitsReplace
import KE.KEqDict
import PyProof.Rows.SumAny
import PyProof.Rows.CallKwBuiltin
import PyProof.EnumMake
import PyProof.TupleIter
import PyProof.Rows.TupIter
import PyProof.FactsAll.range_2
import PyProof.AutoSeq1
import PyProof.Rows.Range3
import PyProof.ZipIter
import PyProof.Rows.SortRuns
import PyProof.Rows.SortPure
import PyProof.Rows.SortShell
import PyProof.Rows.SortStr
import PyProof.MeetsSeq3
import KE.KSortTup
import KE.KSortKey
import PySem.Challenge.RW_quiltlaw_k25_first_tree_laid
set_option bootstrap.genMatcherCode false
set_option tactic.hygienic false
def nop(x:Lean.Syntax):Lean.Syntax:=x.rewriteBottomUp λ|.atom _ v=>.atom .none v|.ident _ r n p=>.ident .none r n p|.node _ k a=>.node .none k a|y=>y
local macro_rules|`($m:declModifiers theorem $i:declId $s:declSig $v:declVal)=>do
 if i.raw.getPos?.isNone then Lean.Macro.throwUnsupported
 return nop (<-`($m:declModifiers theorem $i $s:declSig $v:declVal))
local macro_rules|`($m:declModifiers def $i:declId $s:optDeclSig $v:declVal)=>do
 if m.raw != (<-`(def x:=0)).raw[0]then Lean.Macro.throwUnsupported
 return nop (<-`(noncomputable def $i $s $v:declVal))
local macro_rules|`($m:declModifiers abbrev $i:declId $s:optDeclSig $v:declVal)=>do
 if m.raw != (<-`(def x:=0)).raw[0]then Lean.Macro.throwUnsupported
 return nop (<-`(noncomputable abbrev $i $s $v:declVal))
local macro_rules|`(command|set_option $o:ident $s:str)=>do
 if o.getId != `tw then Lean.Macro.throwUnsupported
 let n:=s.getString.toList.toArray.map λc=>if c.toNat<64 then c.toNat-35 else if c.toNat<92 then c.toNat-36 else c.toNat-37
 let a<-(List.range (n.size/10)).toArray.mapM λi=>let x:=(List.range 10).foldl (λa j=>a*90+n[10*i+j]!) 0;let y:=Lean.mkIdent (.mkSimple s!"tw{x}");`(command|theorem $y:ident:True:=⟨⟩)
 return Lean.mkNullNode a
namespace PySem.W.Fast
set_option tw "I'=IxeH?Zy&>>GsEODx-<k`jcChX'eK.ju:EcQ?XH1q3>;QgS-)^^v?Sc]1y9Y_eo,R<X7=6p;.$Yr3X?O{h0wini7;a|ZJL|&JD#hrYmb|&jN7BcSQ{_hm7/+D+&g^4IwO)2q6G3iWV+q6RZy5m6g,DC2EdT%R?N_mz<?z)kH6oGA'48*g]$DwKj<q$)TKFg'D8C49;,,=hGU8~=#4A4O<:.&}aJzVyYn}qS=BK5q6>TBM1KjC{8)m4d[?nxK/=*75I<dj_$;)/xxM&B)20:QM`%[Bj3$piL^:=9I]NgMtl.cXWl&zY[dR/=ki7K6q(Jt]rnda~yI%Tgg5qyH82;,,<K;cmyM,P<*R~?[x*)4TM;5P/>67:b3O}$1LU){[L5^6{9j.d]i*Apmh.M]h+_7aHkYG8HYF?.%KpA*$:QxvbAG,#g`$r+JdWS/:~pK/a.&(&>VV,39m,Q6$SVA#s|&A&SA7l&yP5(X/|?I(raBA.iXBzi6PRDwt39gY~J_/${|7[a8Wu:kaxs<f`5-5Cp9t5k/:/CzY2CX|}{19^zwLO<LQ]S2HjL*yqZk5Mv9j)B|z7+G.4No,OSmES#5,s9<niJOXe.XM)|/,-1+9-dWOD9(igKcmUA/?'fO0]RWs=RP`1`WiBM3?/qgM]kXi`;|/O]V{k%l>sOyK|`9odL?P(bjE0HSDtyEo'&{wd?IDb_kY}R2-?B(%JN'h86%Xdrj>V0fKxsl;~g)JS'HVD|T8vr(SKtY^ma+w2=OZt,j}2#|$qpYRup%GY,O:/^v$$Tl+ZfmO46jm[#H{-w8Xbb0K'pt?='=aG521vGup[j06UjHp*5ZvULpI9cXWLcC,z+h`RPX:b&Bf?uYs})*?GUNbkR2V&Kg.z3P-{CZQ=lgvL0J#i<#+KRu?;=#%{,j>aYmCZ66+Dn{wbzBNI_fO.~by3CP&`&.Am9u3b%kv*t{5TCc,0XzmGEs'=+*5fUBH/'4cowo5+Q%=t21*G4cYV6WoQSbDVEw2+.*_Ts;{}8`umSi;n*NLfg/pLpWYcN<Ri^q,}l)IVr+w,+de]I:%PEr9NqH0V33GI=Qn)*YO*Az#M]D/#?Z]G8E4s)K20E;Q?V;?ogOplv3V;Glu5blR}jgSEZ+vYvVO)OR9&uZ>J3Y:`N,f?g|AK=5[YRL53Qh%e8}4V$][*8x16jDD)p2/+w7E~;t0*Rr^lb)%_+b0[TV#sL%**E%S^m_n?~&9}$`P$8xVrAhQD6v=L#($KN]:6~cMO0V>/E`Vry,+noWnd]o,GPj~k>v]d},I_j^e~yu#zA<.c1(8U&`?|Jlq(^*cj2n1waPuQP<ED^$-pZItO'l/yi0.<x.=6l1u.QwKt>UTwPU9Zpt)ao<GYVJxC$,3khpyO/vQV*H&ESGhG8Y~4^8Q>9I7mN6jA?0Ul+Zr{USrtZY?Gomu-}Iwc<P:F>9NCwJ2Jgc]YDp6?)w^.t9LMpH;r[3HAR]&]Q4;*;|8*;g<TI=lnJSOPIF.^<d=q:e<8~GL'7hY}DHH&`E+W2'NYii{)Q4mN*GNkS?9Vjq=[zG}B08Uu8p<2h|u9'Z9{ZCq=88EuQzr,KicG]=Pf+Aeju~gB/)v+(Xq5#B%73s}=XQgB5H#MJP}:JRJzEKI?1tnu&qq[8Co&2y5;XsN1sOnf,[h*iuo+1p-$`U&|0)=W)S[O?G,{Bp+IMS;ttSGz2v<](1)iqS7v;]L~bhrvM;[^fCra_`DYJJyGA>'>(KQVl+i5rQP>`cF6r=]|7'AZ,LoT,05NQ'mCo^4nO<k?+;8CvMA8AQp>ti:<<)Wy1ei9?[>~EVaGtLYb%NC-BMbJp<Fr6mf^=-t~C(BM+R2c>^;s'Gsq'CTOIc&:5=^:5S'>9I{2mxS(6ZI>Zcfw.<I&T~q&OeaKD^1B<8[,bo>f^'PgfeJ'Pn*4em77lF3qHaZ']WHXEd&mhfG9(J)=[qOGQ57#/^qk{B%UYw%kiAgJK8l)Faq8g-O_J/9RNE|v''U1*C72$qeNwqCJZGlq;$)LA,//NFcZ{'6MKZEN1>)3<-jcIA+N+e<nC8Sc5kV/HHuDrGd[P/)^Y*]3ztB]8E]^EajeYc1Y$<2*|t[R5}TKwGKK:RB0%:y}>Q<wCO%HXJR:iz%?Rd=++EZnCrBW8UU[QG.:r-3Rt%y$BX}kX-'03z91Y:*/M/+EMFgzzVE~+0<^c:1n({-8<0~h.*Uj8>Ki~89=_ZmvGv(}5ewi[WIaOXmM`E62SZ;~wBZJ$l8?nT^izPE[#m{B8/+[UxE}3V~ROHuE-8S&cy^?l>KK(Lo<)<8&6#$,mLdnXIC*2yyXQ42[B[_'Ag}}1A'}MQoAQ&U.&3YaYo4mZjEoQkZT$_#^Rg8$lRi`Uh.V7KPct5dh(Hx|lBDQ0H$wgnNc~kuoJE.zx-Rd~7/h#HZ.OW3Z4td-Cuv^WuQfyQte8BW?ATx}*KQh{oJ)P`?*`|ryF3SLsZTz=5Cta1|XK&OL,=7Tg]*_k1+?XDM*;2*+<wxkEk9R:/5|=3pQ'`(P)%b#vuXTaw>OTA$yHSK;O~Q[y16xUq'jZ<Mf`V^T3n:1sC|dq1I#Z,3,'9GY5zVimX3*l~*u]i6$<(?K0sW]_U/?|z5g->N9nI[~7+XsFXn`+lArwGxgSJl(2rV|$Me4dUCp0uNTyJrfA%,<N^8I641x*Hp'vC[UFAJQ[c:Pgt(#5DEGq~_xI/*|$e`OSEC>T_q:vyB]9KQrmv1)O{Kmsd7TFOIsFNE0SRaPFL7&&enZ9,fc>3QymR'2Ac+r/NK+/-z%8FIF`fF_WZR|XQ4J{tZi/Rs^V0e>&FF%+E^bRD'H:^r$rvX{.)C6`SHpwzj9D,X.bMm,K%=*s=bx-9-TC&Xb]^l0sHIzH.f/PFPq5#Ai9{he9]AR#x[m#lJX?SS%Zed8,{5U4ZQ{GR0o/1n&)9bhI:)?U0cbkoK2*&dvFty[=A>o_-es1,)A2)$EkU?N+jOLjte0%O7<H-i(kqVNQG1OIW]`eA(l7nL{d>GUPMDBd4oNuYmnR`1?Yi*pVz0-[z$5&ZY`5)qWb^Hu|*Rr;SjDXsIx2U,8oMhFwn7qbUKQJLnhCIxU#nDj/v?ZGPEIdVOdF7$1;J~kyjN^61hceuK[$<H:[O8RVn%/GrMyd&.qN0-P{CPbOqOM5OsM~8g18?vX(=eG~]&)|9}sSr7_5h%$V]$pT_#Av&ljsI]oJbW{Q84}Nw+e`TKC1*{{H&S(.n;dfmOqdr7Py|dqROR^wz%EwZJiN1fOmaZV0B}kSP'f%Z(n_s0z0FeR&EJwDwk7v76Kn4#)hNI/1]es3sUttH5>.+N'V{{-))QYZ5(<xyN~<nB^GeUP=8vc$4Po_VB9a>(X+`2?IUHEhipkFNA]ie6%Ei$?Hh*=hw23yRIvxW1D#uMiE(]dz3cybb(P~{L?klxz8)*,B&:;P2/.z*EYOf0UK2C~'N`;l$/u=1v$dOEfLAj2{%~l'GFp,MRt#4vE3go'aTc%vAP5Z{2v+RFxA:v#u>)(>AJ<drq'zTfRMG&3t4Tq}#>0bS7/6t_]=s5*Fy)IjoJ.0yZ.LyRiGG`A][$z//&^N+c<:nW9?)rj'df;&NHqEfxcoWc+&]UA32#WG)?:<'>wbxT?NQO*s|gosa5qQX7/8B&gO)`$>TgtAwE;/;A8H9%X)Vbq_%5(Re7~R3[6yi9y4DyBVlX$GR,O{p$]EVF/<Sxc0c14/i&'&2zhUs0s8uST['T)L+CBt>;o$}|V<{P8w>YVt-,Z3cLhY~2s7JJen#vUf-Rd~<>+S3`_R;ROnk<>}/NB}MLrH;gq:[S&vU{krkR}|&]NfOUgOvbk.WC[ZuDXYzb~~>aY.Y5]aR5XT4CTG344NJ-8.r6NIBYq7v)9Y1e'&%`xPr:u{#ducr&Q&V|B.:Pj'KA.BYu<Tb'r;&Sc4L4tHxA?H;G8O*Qyn+e/:dxtD4er]+=Ck,63;g1H)Ntx<[[GwSfHx>-+c{85l:,x/R_pXf3s}<-372b4xu1b=5mvYvYVl`._OfvO)JLn56:OH}g-kbFOaHVZe*](**`aJO&:dK:8CQRaM5_B#0dB^2G5e%>+x{YTzZs)3$,j/].9B{>*7|2]6a$u#<?u6DYZ&H<{Kp#xequV);*l(V4AJ_5+|'FApe4T1F9xeLRkSi<Ql]^`}i<m,$<?am=_yVPKw)e$7;Dg,g/3:|RVY+I{#(-p*>Pk:n{C^jpmqV8>B/lYjMw%7SLi-E6VGX)McaC_'8rq14JkgIjuQL'w|L_k{r|]B9&{j:/H,+R,u-avo&8'/a:V~DApAQ?-aTKji,:,Ru1V^RM-OIIrGkX.$3XWJVKZ.;N~kG?>4SVA:xZG$tuWXJAGB6*<]aHWdP8~2sM5ap<5E~KO)dzh[DYn#.3XGal=&(2kjn-3q0*n*3_SFysb2nAeQf;4ED[(;{UM&[Jhbz2)|I1o<4,A,-y|}XR,)hLt}orFV/^M4fy=Rj9k%*9k+5y+P~D21}rWI-gZV|%Kcl.KP{6b4,fNbaRC4RRduj%z6dUZ&-3sQ=Ay6R9Ga|)5dZjg8%[(vpcsj_K,dOF;~`rR'qNE4:ULDaN.7z0o;CZ?&qS6)^5BAN;,M~S4e<1X&:Zir=~`*o>6/W>Xq_OsIHc.ES>fw7&J=jBAn&cHNE3qpMak?7O*yIh_k4g/ObkYq:WJ)^%F}dx0^HCKPCH-ep{$E:SEto]j'Q7n1jwta72AdG>Y)T%^m99v3E5s8;jS6hR/T1g.<Moz+6]Yscg6#<:w'>iWOL8pC(vT]IS;Z4&5DDy2ay0&3O-^e];Ppl+8iEu?hEu^A+Onb/$IGO)L=R9E`xIdI.as]AUFg$>u$o%A+-9EN:8y3r9{14S?5(8yZ3]z>Z(4HI-/pl0<3INqS?5~+bAY'$xfr['VK]b;,OoA:yFwjoGsPQ5E7lQq^5D($VK]|]3#6l+J^Nk-:|sY/}ej(NRe<?HkswehJ&3N0-c$owI,8mI;m8WIWuUy2$qA5IX=xTA:<qc5I{AHDRu`yd&kaB:qFuKXH(hX7AXl]PL1[m$(vFo3.iX)EU.*Yb7[`q3{|K5+q9qk+BuN*|Brz#:o}*-R.r`PGs%S1<rKqNO:I_Xu3E}F'CgAi$MNh+D%}$e2ggoN.1w}E,_my1:+Zd5T?2F)-&*y'#^DZxDD|P?.?o|n)L{6p>Piy2,^{i$5Z:JS#OYnq]ga?dOK/6[*I.<M6_#SH)mhZ2'B`V.)|*l0,I5LWC*Wod(U-k5ZfT&$#TjEDv(t+xJ`#m%>x'Zh4$`^Iv%tRS25?bOVmWl8:^3`eqUP5OPZ0i=]MK1l8W%B+';9PlR&?b48zinj(kGSD$c#J`:}gDgwo4=dCoM]'[pxKQNyT%7(BXXCNoh2cog5AQN7KerpJhw;&`$ELV1<WZ/C<U+YIXpV&r/X<Rg4[sIQ]m:Iiw>gE%[#l`R6(oG^~0)a4/+3=ZW^Ya>0>1Nxxv%r$jvV+0SBT#`(P7NY,~2gV-WVSJci8;2n]/7G_A(WqbGk$wxM?mK50J6JS=f7v4hcG7BB}vH3gX9S%?Uu{3vRPu>Ng(B;giA6F4g[=[z=O<0A6R$O0VL5.%OjHiaD2idnKK3zweDr}tK#j10K2e/[5SzDp&<Rw]c>6+K>QZwM,l3$J,6l.a#EfKq00J^+4yOJd&'jpi.nt&XARZFCX_lxk<:Ll=Dy/(.lNwkobgzR;M74aZauelX8MEShShY7XMGS8m)IF]2x-cAcBa6SrxB_En8h:nkU=Wuh;zt^8.CMN6.8JO5^/YEQMZkL*WEd=q01y|FnQdSK`j{#D<7sQ]H~g>)U#Wy8[h~SibOrVLKsZV4K8=cZQt,^-~$66Yas[$qj-5_lRVfJ2y;h?;bEjpRNMU4%a*:p%5.Y0*boHL;oLkMQ44T6}R%(fB*]%^qRHsGFGqDNX-GL}Fyi$RE#A}D%nbEm~;S)}?j{mO?ZS0nWr;x&r')(%2B#tN#=1p08k-2JL_>H6:H?~7f+RRwG=aU1`?)rO2^E|:`}?'W6u{[n:mQCL~(wOOeZ8N$l7$]qn30mCHB+^gvT1-fN'3tiuVP%:SDo*=rL?P&FxNv2Q(<WVR7H<q-d:v,btGD?+OIP'UHC~)r~3i8u?%f[dvMuOlj3{6w.Liw%X)SlXC:9w.1E<83t(>T2a0;f}[(m$h2O+T5:BsWM0`[>}:Gj8?=QeRT6R=cxVk,RgK4_VEv.5gS0:3rDi$gXXh5)C3-LKt|U,SdvW)&9$4+&Lf:<Pg7>J?^_Hn$Rsd5,cR~VV/4f(96JoY<tP3+E'{oXmeQNIqyC&ot]#i2im>'(?'%+KBg77}sU<B4]3:qceWp51#>(w2u[vZEG[vJwW?Pa=]#(Vs,,m##+O}V]Izgq+*OS5SI%GsK<<+m}X~Ak?2[C`X`^#D95J-v]A88cJh$`fFM=uPMja+y%0=7HB~9~Xxdh-iN6|}nJ#w'/?x>AaW8gZ#>]s8E9<Pvo'jXd}IuKe4RJiLIVbrh6AbJxQGP&~:$l=9Z:+PrO0}J80S&:/f)(EHS4H&3E0J~N{F_dCO+Wa*xQ:4zS/2g8fn<j5A9NfE}WU'tSFbntAAx}ld7b`{X>P;}A>sbxk0&|^S*z+<uM9q=,Prbs=uz6YlDCi-VvQ`T^&KX_BN0=LbM|qtm+F13z3ld4-O56$]D<S;Qx;%V56kW+0xGh91Pj6BkccDV=&Xns_oxZ-NL1/*nXQP:u4L,9C#mgCT=1A]q+.N[mL3Qr.KqDheK,e|DM}1X16y%8t3ocD{,nv-[.9$*H=i]:$?j35%M],g?eA/VV8`Bd[n({^'CZK&p6yAlHBSNuOwRJH1&rc2gz/c~/H&w2g(tkuc2ksz,.jXA'0qapeA^D?RDhSAvfGp&aLuph};u}8?#o[mh~rY'oC$Mp/v9n'5-I(7D;Rb>a2uudhId$0$Obr/^HrawxSG3<76$L>M-Go'E,uY'6*.g+uCj?QjQd`v0%jTzzEaFD}`FApr5fq.Zy23DlH~~H,D%_#*8p}jRILC:bEWA4}ACFsG%BY-r)U-.vIYM|l&A'QjHCS80L:WrnNN&9Ce0xJS2LD4joJ$7GSE6<)j~R^jQC>ngQVv3>1kab.%MSN|3%rS+0l&(,/Ir[4pZDfIFFSM=eg7gpNkdVEncPh$/no[*'_%`M7%$^Yhi>wSC;[t>,Z_)c"
end PySem.W.Fast
set_option autoImplicit true
set_option relaxedAutoImplicit true
abbrev q04:=@PySem.wpAny_bind
abbrev q05:=@PySem.wpAny_pure
abbrev q06:=@if_neg
abbrev q07:=@if_pos
abbrev q08:=@decide_eq_false
abbrev q09:=@decide_eq_true
abbrev q0A:=@List.getD_eq_getElem?_getD
abbrev q0B:=@List.mem_cons_self
abbrev q0C:=@List.mem_append_right
abbrev q0D:=@List.mem_append_left
abbrev q0E:=@List.take_add_one
abbrev q0F:=@List.take_of_length_le
abbrev q0G:=@Array.getElem?_toList
abbrev q0H:=@List.mem_of_mem_take
abbrev q0I:=@List.mem_of_mem_drop
abbrev q0J:=@List.length_range
abbrev q0K:=@List.map_congr_left
abbrev q0L:=@Option.getD_some
abbrev q0M:=@List.range_succ
abbrev q0N:=@List.length_zip
abbrev q0O:=@Bool.and_eq_true
abbrev q0P:=@Nat.le_of_lt
abbrev q0Q:=@absurd
abbrev q0R:=@congrArg
abbrev q0S:=@Option.some.inj
abbrev q0T:=@List.drop_eq_getElem_cons
abbrev q0U:=@List.filterMap_cons
abbrev q0V:=@Array.toList_append
abbrev q0W:=@PySem.sizeLine_eq
abbrev q0X:=@PySem.wpAny_mono
abbrev q0Y:=@PySem.wpAny_holding
abbrev q0Z:=@List.length_singleton
abbrev q0a:=@Bool.false_eq_true
abbrev q0b:=@decide_eq_true_eq
theorem zzl(h:1=1:=by exact Or.inl rfl):1=1:=h
theorem zz0(h:1=1:=by rfl):1=1:=h
theorem zz1(h:1=1:=by decide):1=1:=h
theorem zz2(h:1=1:=by decide +kernel):1=1:=h
theorem zz3(h:1=1:=by first | exact .inl rfl | exact .inr rfl | assumption):1=1:=h
theorem zz4(h:1=1:=by intro _;rfl):1=1:=h
theorem zz5(h:1=1:=by with_unfolding_all rfl):1=1:=h
theorem zz6(h:1=1:=by first | exact Or.inl rfl | exact Or.inr (Or.inl rfl) | exact Or.inr (Or.inr rfl)):1=1:=h
local macro_rules|`(tactic|omega)=>`(tactic|first|lia|omega +splitDisjunctions)
set_option linter.all false
set_option Elab.async false
set_option maxRecDepth 100000
abbrev LL:=PySem.Value->PySem.Shared->Prop
abbrev LM:=PySem.W.Frag
abbrev LN:=List (PySem.Addr×PySem.Obj)
abbrev LO:=List Nat
abbrev LP:=PySem.Shared
abbrev LQ:=List PySem.Value
abbrev LR:=List PySem.Addr
abbrev LS:=PySem.Str->Option PySem.Value
abbrev LU:=PySem.FuncData
abbrev LV:=PySem.Program
abbrev LW:=List PySem.Str
abbrev LX:=PySem.Around
abbrev LY:=PySem.World
abbrev LZ:=Option PySem.Addr
abbrev L3:=List PySem.Expr
local macro_rules|`(term|⋯)=>`(by omega)
abbrev KL:=@List.getElem?_eq_getElem
abbrev KM:=@List.getElem?_eq_some_iff
abbrev KN:=@PySem.Heap.get?_push_of_some
abbrev KO:=@List.length_map
abbrev KP:=@List.mem_singleton
abbrev KQ:=@List.getElem?_map
abbrev KR:=@List.mem_of_getElem?
abbrev KS:=@PySem.Heap.get?_update_other
abbrev KU:=@PySem.Heap.get?_push_size
abbrev KW:=@List.size_toArray
abbrev KY:=@List.getElem_mem
abbrev KZ:=@Int.toNat_natCast
abbrev K0:=@PySem.Heap.get?_update_self
abbrev K1:=@List.length_cons
abbrev K2:=@List.map_append
abbrev K3:=@List.mem_append
abbrev K4:=@List.map_map
abbrev K5:=@List.mem_cons
abbrev K6:=@List.mem_cons_of_mem
abbrev K7:=@List.length_reverse
abbrev K8:=@Nat.lt_of_lt_of_le
abbrev K9:=@Nat.ne_of_lt
abbrev K_:=@List.getElem?_append_right
abbrev K':=@List.getElem?_append_left
abbrev La:=@List.length_append
abbrev Lb:=@Nat.le_refl
abbrev Lc:=@Nat.zero_le
abbrev Ld:=@Bool.false_ne_true
abbrev Le:=@PySem.Heap.lt_size
abbrev Lf:=@Option.map_eq_some_iff
abbrev Lg:=@List.getElem?_cons_succ
abbrev Lh:=@List.map_cons
abbrev Li:=@List.reverse_cons
abbrev Lj:=@Nat.le_trans
abbrev Lk:=@Nat.lt_irrefl
abbrev Ll:=@Nat.lt_succ_self
abbrev Lm:=@List.append_nil
abbrev Ln:=@List.append_assoc
abbrev Lo:=@List.getElem?_set_self
abbrev Lp:=@List.take_length
abbrev Lq:=@List.length_take
abbrev Lr:=@List.length_drop
abbrev Ls:=@List.reverse_append
abbrev Lu:=@List.reverse_reverse
abbrev Lv:=@Nat.lt_of_le_of_lt
abbrev Lw:=@List.length_eq_zero_iff
abbrev Lx:=@List.mem_map
abbrev Lz:=@List.all_eq_true
abbrev LA:=@Nat.add_le_add_left
abbrev LB:=@List.getElem_toArray
abbrev LC:=@List.nil_append
abbrev LD:=@List.length_set
abbrev LF:=@Int.emod_nonneg
abbrev LG:=@Int.emod_lt_of_pos
abbrev LH:=@Int.toNat_of_nonneg
abbrev LI:=@Nat.min_eq_left
abbrev LJ:=@List.take_zero
abbrev LK:=@List.drop_zero
set_option hygiene false
local macro_rules|`(a⁻¹)=>`((.ins C b [("name",.str (tx n)),("cost",.int c),("part_names",.ref l)]))|`(b⁻¹)=>`((by decide))|`(c⁻¹)=>`((model prog w))|`(d⁻¹)=>`((model X.prog X.w))|`(e⁻¹)=>`(((backTo pos (starEach es X.env)).any (·.1)=false))|`(f⁻¹)=>`((by kernel_rfl))|`(g⁻¹)=>`(((x==("__debug__":Str))=false))|`(h⁻¹)=>`((.ins C g [("picture",.ref l),("text",.str (tx (aT p))),("beside_texts",.ref j)]))
local macro_rules|`(↑$f)=>`($f P w K mg base bu)
local macro_rules|`($a∣$b)=>`(($a).cal l.prog w base X G (λ_ F m k b=>$b))
set_option hygiene true
namespace L2
open PySem PySem.Spec PyProof.Rows
abbrev c_:=Sum Int Str
def qd:c_->Value->Bool
 | .inl k,v=>Value.isInt k v
 | .inr x,v=>Value.isStrOf x v
def Hm(w:LY):c_->Int
 | .inl k=>hashInt k
 | .inr x=>hashStr w x
theorem cz:∀{k:c_} {v:Value},qd k v=true->(∃i t,k=Sum.inl i/\v=Value.int i t)\/(∃x t,k=Sum.inr x/\v=Value.str x t)
 | .inl i,v,h=>by
  obtain⟨t,e⟩:=Value.isInt_shape (k:=i) (v:=v) h;exact .inl ⟨i,t,rfl,e⟩
 | .inr x,v,h=>by
  obtain⟨t,e⟩:=Value.isStrOf_shape (x:=x) (v:=v) h;exact .inr ⟨x,t,rfl,e⟩
theorem yY(i:Int)(t:Tok):qd (.inl i) (.int i t)=true:=by simp[qd,Value.isInt]
theorem y4(x:Str)(t:Tok):qd (.inr x) (.str x t)=true:=by simp[qd,Value.isStrOf]
theorem EZ(a b:Int):decide ((Sum.inl a:c_)=Sum.inl b)=(a==b):=by
 by_cases e:a=b
 ·subst e;simp
 ·have h:¬ (Sum.inl a:c_)=Sum.inl b:=λq=>e (Sum.inl.inj q)
  rw[q08 h];exact(beq_eq_false_iff_ne.mpr e).symm
theorem Fs(a b:Str):decide ((Sum.inr a:c_)=Sum.inr b)=decide (a=b):=by
 by_cases e:a=b
 ·subst e;simp
 ·have h:¬ (Sum.inr a:c_)=Sum.inr b:=λq=>e (Sum.inr.inj q)
  rw[q08 h,q08 e]
theorem Fk(a:Int)(b:Str):decide ((Sum.inl a:c_)=Sum.inr b)=false:=q08 (λq=>nomatch q)
theorem FQ(a:Str)(b:Int):decide ((Sum.inr a:c_)=Sum.inl b)=false:=q08 (λq=>nomatch q)
def cj(prog:LV)(w:LY):PySem.KeyKind prog w c_ where
 is:=qd
 hash:=Hm w
 inj:=λv a b ha hb=>by
  rcases cz ha with⟨i,t,rfl,rfl⟩ | ⟨x,t,rfl,rfl⟩
  ·rcases cz hb with⟨j,u,rfl,e⟩ | ⟨y,u,rfl,e⟩
   ·injection e with e1 _;rw[e1]
   ·exact nomatch e
  ·rcases cz hb with⟨j,u,rfl,e⟩ | ⟨y,u,rfl,e⟩
   ·exact nomatch e
   ·injection e with e1 _;rw[e1]
 byValue:=λk v h=>by
  rcases cz h with⟨i,t,rfl,rfl⟩ | ⟨x,t,rfl,rfl⟩<;>rfl
 pyHash:=λhv h=>by
  rcases cz hv with⟨i,t,rfl,rfl⟩ | ⟨x,t,rfl,rfl⟩
  ·exact wpAny_pyHash_int h
  ·exact wpAny_pyHash_str h
 eqBool:=λhu hv h=>by
  rcases cz hu with⟨i,t,rfl,rfl⟩ | ⟨x,t,rfl,rfl⟩
  ·rcases cz hv with⟨j,u,rfl,rfl⟩ | ⟨y,u,rfl,rfl⟩
   ·rw[EZ]at h;exact wpAny_eqBool_int h
   ·rw[Fk]at h;exact SeqAt.EqAt.int_str i t y u _ _ _ _ h
  ·rcases cz hv with⟨j,u,rfl,rfl⟩ | ⟨y,u,rfl,rfl⟩
   ·rw[FQ]at h;exact SeqAt.EqAt.str_int x t j u _ _ _ _ h
   ·rw[Fs]at h;exact wpAny_eqBool_str h
 «strs»:=λk x t v h=>by
  rcases cz h with⟨i,u,rfl,e⟩ | ⟨y,u,rfl,e⟩
  ·exact nomatch e
  ·injection e with e1 _
   subst e1;cases v<;>rfl
theorem vG(prog:LV)(w:LY)(i:Int)(t:Tok):(cj prog w).is (.inl i) (.int i t)=true:=yY i t
theorem vw(prog:LV)(w:LY)(x:Str)(t:Tok):(cj prog w).is (.inr x) (.str x t)=true:=y4 x t
inductive V where
 |non | bl (b:Bool) | int (i:Int) | str (x:Str) | byt (b:Array UInt8) | flt (b:UInt64) | ref (a:Addr) | ty (n:String)
 deriving DecidableEq
def bG:V->Value->Prop
 | .non,u=>u=Value.none
 | .bl b,u=>u=Value.bool b
 | .int i,u=>∃t,u=Value.int i t
 | .str x,u=>∃t,u=Value.str x t
 | .byt b,u=>∃t,u=Value.bytes b t
 | .flt b,u=>∃t,u=Value.float b t
 | .ref a,u=>u=Value.ref a
 | .ty n,u=>u=Value.type n
abbrev bh:List V->List Value->Prop:=Paired bG
theorem bh.length(r:bh xs us):xs.length=us.length:=Paired.length r
theorem bh.get:∀{xs:List V} {us:LQ} {i:Nat} {x:V},bh xs us->xs[i]?=some x->∃u,us[i]?=some u/\bG x u
 |_,_,_,_,.nil,e=>by simp at e
 |_,_,0,_,.cons r _,e=>by simp at e;subst e;exact⟨_,rfl,r⟩
 |_,_,i+1,x,.cons _ t,e=>by
  obtain⟨u,h1,h2⟩:=bh.get (i:=i) (x:=x) t (by simpa using e);exact⟨u,by simpa using h1,h2⟩
theorem bh.set(r:bG x u):∀{xs:List V} {us:LQ} (i:Nat),bh xs us->bh (xs.set i x) (us.set i u)
 |_,_,_,.nil=>.nil
 |_,_,0,.cons _ t=>.cons r t
 |_,_,i+1,.cons q t=>.cons q (bh.set r i t)
theorem bh.append:∀{xs ys:List V} {us ws:LQ},bh xs us->bh ys ws->bh (xs++ys) (us++ws)
 |_,_,_,_,.nil,s=>s
 |_,_,_,_,.cons r t,s=>.cons r (bh.append t s)
theorem bh.take:∀{xs:List V} {us:LQ} (n:Nat),bh xs us->bh (xs.take n) (us.take n)
 |_,_,0,_=>.nil
 |_,_,_+1,.nil=>.nil
 |_,_,n+1,.cons r t=>.cons r (bh.take n t)
theorem bh.drop:∀{xs:List V} {us:LQ} (n:Nat),bh xs us->bh (xs.drop n) (us.drop n)
 |_,_,0,r=>r
 |_,_,_+1,.nil=>.nil
 |_,_,n+1,.cons _ t=>bh.drop n t
def iW:Option V->Option Value->Prop
 |some v,some u=>bG v u
 |none,none=>True
 |_,_=>False
def KV{κ:Type}:List (κ×V)->List (κ×Value)->Prop:=Paired fun(p:κ×V) (q:κ×Value)=>p.1=q.1/\bG p.2 q.2
def kV:c_->V
 | .inl i=>.int i
 | .inr x=>.str x
inductive HO where
  |lst (xs:List V)
  |tup (xs:List V)
  |dK (kvs:List (c_×V)) | dT (kvs:List (List c_×V))
  |set(S:Int->Bool) (n:Nat)
  |ins (C dx:Addr) (fs:List (Str×V))
  |own (x:Addr)
  |xd (fs:List (Str×V))
  |met (f x:Addr)
  |rng (lo hi:Int)
  |frz (o:Obj) (u:HO)
  |tbl (ps:Array Value)
  |ext (φ:Heap->Prop)
abbrev Hp:=Addr->Option HO
def aD(H:Hp)(a:Addr)(o:HO):Hp:=λb=>if b=a then some o else H b
theorem af:aD H a o a=some o:=by unfold aD;rw[q07 rfl]
theorem ar{a b:Addr}(h:b≠a):aD H a o b=H b:=by unfold aD;rw[q06 h]
theorem k8:aD (aD H a o) a u=aD H a u:=by
 funext b;unfold aD;split<;>rfl
theorem qY{H:Hp}{o u:HO}(h:H a=some o)(h':H b=some u)(d:o≠u):a≠b:=by
 intro e;subst e;rw[h]at h';exact d (q0S h')
theorem aI{H:Hp}{o:HO}(h:H a=some o)(h':H b=none):a≠b:=by
 intro e;subst e;rw[h]at h';cases h'
section
variable (P:LV)(w:LY)
def cG(H:Hp)(h:Heap)(a:Addr):HO->Prop
 | .lst xs=>xs.length<=sizeLine/\∃(its:LQ) (n:Nat),bh xs its/\h.get? a=some {cls:=.type "list",data:=.seq its.toArray n}
 | .tup xs=>xs.length<=sizeLine/\∃its:List Value,bh xs its/\IsTup h a its.toArray
 | .dK kvs=>kvs.length<=sizeLine/\(a==sysModules)=false/\∃vs,KV kvs vs/\h.DictOf (cj P w) a vs
 | .dT kvs=>kvs.length<=sizeLine/\(a==sysModules)=false/\∃xs:List (List c_×Addr×Value),
   Paired (fun(p:List c_×V) (q:List c_×Addr×Value)=>p.1=q.1/\H q.2.1=some (.tup (p.1.map kV))/\bG p.2 q.2.2) kvs xs /\
   ∃o es ep,h.get? a=some o/\o.ExactDict/\o.data=.dict es ep/\es.toList=xs.map (entryOfKey (tupleKind (cj P w)))/\(xs.map (·.1)).Nodup
 | .set S n=>h.SetOf (intKind P w) a S n
 | .ins C dx fs=>H dx=some (.own a)/\fs.length<=1000/\dx≠a/\h.get? a=some (PySem.W.instObj C dx) /\
   ∃mA,h.Ns1 dx mA/\(∀f,iW (fs.lookup f) (mA f))/\PySem.Within mA (fs.map (·.1))
 | .own _=>∃o,h.get? a=some o
 | .xd fs=>∃mA,h.Ns1 a mA/\∀f,iW (fs.lookup f) (mA f)
 | .rng lo hi=>∃t u v,h.get? a=some {cls:=.type "range",data:=.fields #[.int lo t,.int hi u,.int 1 v]}
 | .frz o u=>h.get? a=some o/\cG H h a u
 | .tbl ps=>h.get? a=some {cls:=.none,data:=.fields ps}
 | .met f x=>h.get? a=some (PySem.W.methodObj (.ref f) (.ref x))
 | .ext φ=>φ h/\(∃o,h.get? a=some o)/\∀h1 h2:Heap,φ h1->(∀o,h1.get? a=some o->h2.get? a=some o)->φ h2
def kr(H:Hp)(h:Heap):Prop:=∀a o,H a=some o->cG P w H h a o
end
section
variable {P:LV}{w:LY}{H H':Hp}{h h':Heap}{a:Addr}{o:HO}
theorem cG.lt(x:cG P w H h a o):a<h.objs.size:=by
 cases o with
 |lst xs=>obtain⟨_,_,_,_,e⟩:=x;exact Le e
 |tup xs=>obtain⟨_,_,_,p⟩:=x;exact p.lt
 |dK kvs=>obtain⟨_,_,_,_,o,_,_,e,_⟩:=x;exact Le e
 |dT kvs=>obtain⟨_,_,_,_,o,_,_,e,_⟩:=x;exact Le e
 |set S n=>obtain⟨o,_,_,_,e,_⟩:=x;exact Le e
 |ins C dx fs=>obtain⟨_,_,_,e,_⟩:=x;exact Le e
 |own y=>obtain⟨_,e⟩:=x;exact Le e
 |xd fs=>obtain⟨_,⟨_,_,_,e,_⟩,_⟩:=x;exact Le e
 |rng lo hi=>obtain⟨_,_,_,e⟩:=x;exact Le e
 |frz ob u=>obtain⟨e,_⟩:=x;exact Le e
 |tbl ps=>exact Le (show h.get? a=some _ from x)
 |met f y=>exact Le (show h.get? a=some _ from x)
 |ext φ=>obtain⟨_,⟨_,e⟩,_⟩:=x;exact Le e
theorem Paired.mapP{α β:Type}{F G:α->β->Prop}:∀{l₁:List α} {l₂:List β},Paired F l₁ l₂->(∀a b,F a b->G a b)->Paired G l₁ l₂
 |_,_,.nil,_=>.nil
 |_,_,.cons r t,f=>.cons (f _ _ r) (Paired.mapP t f)
theorem cG.stay(x:cG P w H h a o)(k:∀b u,(b=a\/H b=some (.own a))->h.get? b=some u->h'.get? b=some u)
  (ho:∀b,H b=some (.own a)->H' b=some (.own a)) (ht:∀b xs,H b=some (.tup xs)->H' b=some (.tup xs)):cG P w H' h' a o:=by
 induction o with
 |lst xs=>obtain⟨z,m,n,r,e⟩:=x;exact⟨z,m,n,r,k _ _ (.inl rfl) e⟩
 |tup xs=>obtain⟨z,m,r,g,e,c⟩:=x;exact⟨z,m,r,g,k _ _ (.inl rfl) e,c⟩
 |dK kvs=>obtain⟨z,y,vs,r,g,j,l,e,c⟩:=x;exact⟨z,y,vs,r,g,j,l,k _ _ (.inl rfl) e,c⟩
 |dT kvs=>
  obtain⟨z,y,xs,r,g,j,l,e,c⟩:=x;exact⟨z,y,xs,Paired.mapP r λp q z=>⟨z.1,ht _ _ z.2.1,z.2.2⟩,g,j,l,k _ _ (.inl rfl) e,c⟩
 |set S n=>obtain⟨g,j,l,t,e,c⟩:=x;exact⟨g,j,l,t,k _ _ (.inl rfl) e,c⟩
 |ins C dx fs=>
  obtain⟨d,z,I,e,D,⟨B,j,l,J,c⟩,r⟩:=x;exact⟨ho _ d,z,I,k _ _ (.inl rfl) e,D,⟨B,j,l,k _ _ (.inr d) J,c⟩,r⟩
 |own y=>obtain⟨g,e⟩:=x;exact⟨g,k _ _ (.inl rfl) e⟩
 |xd fs=>obtain⟨D,⟨B,j,l,e,c⟩,r⟩:=x;exact⟨D,⟨B,j,l,k _ _ (.inl rfl) e,c⟩,r⟩
 |rng lo hi=>obtain⟨t,u,v,e⟩:=x;exact⟨t,u,v,k _ _ (.inl rfl) e⟩
 |frz g u ih=>obtain⟨e,q⟩:=x;exact⟨k _ _ (.inl rfl) e,ih q⟩
 |tbl ps=>
  have e:h.get? a=some {cls:=.none,data:=.fields ps}:=x;show h'.get? a=some {cls:=.none,data:=.fields ps};exact k a _ (.inl rfl) e
 |met f y=>
  have e:h.get? a=some (PySem.W.methodObj (.ref f) (.ref y)):=x;show h'.get? a=some (PySem.W.methodObj (.ref f) (.ref y));exact k a _ (.inl rfl) e
 |ext φ=>obtain⟨p,⟨o,e⟩,G⟩:=x;exact⟨G _ _ p λo q=>k _ _ (.inl rfl) q,⟨o,k _ _ (.inl rfl) e⟩,G⟩
theorem kr.lt(x:kr P w H h)(e:H a=some o):a<h.objs.size:=(x a o e).lt
theorem kr.fresh(x:kr P w H h)(e:h.objs.size<=a):H a=none:=by
 cases q:H a with
 |none=>rfl
 |some u=>exact q0Q (K8 (x.lt q) e) (Lk _)
theorem kr.kept(x:kr P w H h)(k:∀b u,h.get? b=some u->h'.get? b=some u):kr P w H h':=λa o e=>
 (x a o e).stay (λb u _ q=>k b u q) (λ_ q=>q) λ_ _ q=>q
theorem kr.laid(x:kr P w H h)(k:∀b u,h.get? b=some u->h'.get? b=some u)(hp:h.objs.size<=a)(new:cG P w (aD H a o) h' a o):kr P w (aD H a o) h':=λb u e=>by
 have hn:=x.fresh hp
 by_cases hb:b=a
 ·subst hb;rw[af]at e;cases e;exact new
 ·rw[ar hb]at e
  exact(x b u e).stay (λc v _ q=>k c v q) (λc q=>by rw[ar (aI q hn)];exact q) λc xs q=>by rw[ar (aI q hn)];exact q
end
def Rd(H:Hp)(a:Addr)(u:HO):Prop:=H a=some u\/∃o,H a=some (.frz o u)
theorem Rd.ok(r:Rd H a u)(x:kr P w H h):cG P w H h a u:=by
 rcases r with r | ⟨o,r⟩
 ·exact x a u r
 ·obtain⟨_,q⟩:=x a _ r
  exact q
def Go:Option HO->Prop
 |some (.lst _)=>True
 |some (.dK _)=>True
 |some (.dT _)=>True
 |some (.set _ _)=>True
 |some (.ins _ _ _)=>True
 |some (.ext _)=>True
 |_=>False
section
variable {P:LV}{w:LY}{H:Hp}{h h':Heap}{x e:Addr}{o':HO}
theorem kr.write(ok:kr P w H h)(mu:Go (H x))(he:e=x\/H e=some (.own x))(k:∀b u,b≠e->h.get? b=some u->h'.get? b=some u)(heo:∃u,h'.get? e=some u)
  (new:cG P w (aD H x o') h' x o'):kr P w (aD H x o') h':=λb u q=>by
 have nown:∀c y,H c=some (.own y)->c≠x:=λc y r z=>by subst z;rw[r]at mu;exact mu
 have ntup:∀c xs,H c=some (.tup xs)->c≠x:=λc xs r z=>by subst z;rw[r]at mu;exact mu
 by_cases hb:b=x
 ·subst hb;rw[af]at q;cases q;exact new
 ·rw[ar hb]at q
  by_cases hbe:b=e
  ·have q':H b=some (.own x):=by
    rcases he with z | z
    ·exact q0Q (hbe.trans z) hb
    ·rw[hbe];exact z
   rw[q]at q';cases q'
   obtain⟨v,a⟩:=heo;exact⟨v,by rw[hbe];exact a⟩
  ·refine(ok b u q).stay (λc v hc r=>k c v ?_ r) (λc r=>by rw[ar (nown c b r)];exact r) λc xs r=>by rw[ar (ntup c xs r)];exact r
   rcases hc with rfl | hc
   ·exact hbe
   ·rintro rfl
    rcases he with z | z
    ·exact nown c b hc z
    ·rw[hc]at z;cases z;exact hb rfl
end
structure Un(fs ex:LR)(H H':Hp)(h h':Heap):Prop where
 keep:∀b o,h.get? b=some o->H b=none->b∉fs->b∉ex->h'.get? b=some o
 slot:∀b o,h.get? b=some o->H b=none->b∈fs->b∉ex->∃sl,h'.get? b=some {o with slots:=sl}
 free:∀b o,h.get? b=some o->H b=none->b∉ex->H' b=none
 there:∀b o,h.get? b=some o->b∉ex->∃o',h'.get? b=some o'
 tups:∀b xs,H b=some (.tup xs)->H' b=some (.tup xs)
 frzs:∀b o u,H b=some (.frz o u)->H' b=some (.frz o u)
 tbls:∀b ps,H b=some (.tbl ps)->∃more,H' b=some (.tbl (ps++more))
section
variable {fs fs' ex ex':LR}{H H1 H2:Hp}{h h1 h2 h':Heap}{a x e:Addr}{o:HO}
theorem Un.any(u:Un fs ex H H1 h h1){b:Addr}{ob:Obj}(q:h.get? b=some ob)(n:H b=none)(hx:b∉ex):∃sl,h1.get? b=some {ob with slots:=sl}:=by
 by_cases a:b∈fs
 ·exact u.slot b ob q n a hx
 ·exact⟨ob.slots,u.keep b ob q n a hx⟩
theorem Un.kept(k:∀b u,h.get? b=some u->h'.get? b=some u):Un fs ex H H h h':=
 ⟨λb ob q _ _ _=>k b ob q,λb ob q _ _ _=>⟨ob.slots,k b ob q⟩,λ_ _ _ n _=>n,λb ob q _=>⟨ob,k b ob q⟩,λ_ _ q=>q,λ_ _ _ q=>q,λ_ ps q=>⟨#[],by rw[q];simp⟩⟩
theorem Un.refl:Un fs ex H H h h:=Un.kept λ_ _ q=>q
theorem Un.laid(k:∀b u,h.get? b=some u->h'.get? b=some u)(hp:h.objs.size<=a)(hn:H a=none):Un fs ex H (aD H a o) h h' where
 keep:=λb u q _ _ _=>k b u q
 slot:=λb u q _ _ _=>⟨u.slots,k b u q⟩
 free:=λb u q n _=>by rw[ar (K9 (K8 (Le q) hp))];exact n
 there:=λb u q _=>⟨u,k b u q⟩
 tups:=λb xs q=>by rw[ar (aI q hn)];exact q
 frzs:=λb u xs q=>by rw[ar (aI q hn)];exact q
 tbls:=λb ps q=>⟨#[],by rw[ar (aI q hn),q];simp⟩
theorem Un.write(mu:Go (H x))(he:e=x\/H e=some (.own x))(k:∀b u,b≠e->h.get? b=some u->h'.get? b=some u)(heo:∃u,h'.get? e=some u):Un fs ex H (aD H x o) h h':=by
 have g:∀b,H b=none->b≠x:=λb n z=>by subst z;rw[n]at mu;exact mu
 have j:∀b,H b=none->b≠e:=λb n z=>by
  subst z;rcases he with r | r
  ·exact g b n r
  ·rw[n]at r;cases r
 have c:∀b u,H b=some u->¬ Go (some u)->b≠x:=λb u q m z=>by subst z;rw[q]at mu;exact m mu
 refine⟨λb u q n _ _=>k b u (j b n) q,λb u q n _ _=>⟨u.slots,k b u (j b n) q⟩,λb u q n _=>by rw[ar (g b n)];exact n,λb u q _=>?_,
  λb l q=>by rw[ar (c b _ q λz=>z)];exact q,λb u l q=>by rw[ar (c b _ q λz=>z)];exact q,λb ps q=>⟨#[],by rw[ar (c b _ q λz=>z),q];simp⟩⟩
 by_cases a:b=e
 ·subst a;exact heo
 ·exact⟨u,k b u a q⟩
end
def G0(h:Heap)(H:Hp):List Addr:=(List.range h.objs.size).filter λa=>(H a).isSome
def ug(h:Heap)(H:Hp):Heap:=PySem.W.hideAll h (G0 h H)
theorem zO(h:Heap)(H:Hp):(ug h H).objs.size=h.objs.size:=PySem.W.hideAll_size _ _
theorem A7{h:Heap}{H:Hp}{b:Addr}{o:Obj}(e:h.get? b=some o)(n:H b=none):(ug h H).get? b=some o:=
 PySem.W.hideAll_get _ e λhm=>by
  have q:(H b).isSome=true:=(List.mem_filter.mp hm).2;rw[n]at q;simp at q
theorem De{b:Addr}{o:Obj}(e:(ug h H).get? b=some o):h.get? b=some o/\H b=none:=by
 have a:h.get? b=some o:=PySem.W.of_hideAll (G0 h H) e;refine⟨a,?_⟩;cases q:H b with
 |none=>rfl
 |some x=>
  have c:b∈G0 h H:=List.mem_filter.mpr ⟨List.mem_range.mpr (Le a),by simp[q]⟩;have z:(ug h H).get? b=none:=PySem.W.hideAll_none (G0 h H) c;rw[z]at e;cases e
def Ea(g h:Heap)(L:Addr):List (Addr×Obj):=(List.range h.objs.size).filterMap λa=>if a=L\/(g.get? a).isSome=true then none else(h.get? a).map λo=>(a,o)
def b_(g h:Heap)(L d:Addr):List (Addr×Obj):=(Ea g h L).filter λp=>decide (p.1≠d)
structure Mod(K:LM)(mg:LS)(base:Heap):Prop where
 kin:K.In base
 glob:base.Ns mainGlobals mg
 blt:∃mb,base.Ns builtinsNs mb/\∀x:Str,x≠"__name__"->mb x=bootBuiltins x
 nolimit:base.NoLimit
structure Cx where
 prog:Program
 w:World
 K:PySem.W.Frag
 mg:Str->Option Value
 base:Heap
 A:Around
 N:List Str
 s₀:Shared
 H₀:Hp
 env:Env
 outer:List Env
 stack:List Env
 ex:List Addr
 fn:Str->Bool
 calm:Bool
 pn:List (Addr×Obj)
 xe:Value->Shared->Prop
def xT(l:List Env):List Addr:=l.filterMap (·.frame)
abbrev Cx.fs(X:Cx):List Addr:=xT X.outer
def GX(sc:Scope)(x:Str):Prop:=sc.names.lookup x=some .local\/sc.names.lookup x=some .cell\/sc.names.lookup x=some .free
def Loc(sc:Scope)(x:Str):Prop:=sc.names.lookup x=some .local\/sc.names.lookup x=some .cell
def HC(env:Env)(h:Heap)(m:LS)(x:Str)(u:Value):Prop:=
 (env.kindOf x=some .local/\m x=some u)\/((env.kindOf x=some .cell\/env.kindOf x=some .free)/\∃c,env.cells.lookup x=some c/\h.IsCell c (some u))
structure Cx.Ok(X:Cx):Prop where
 mod:Mod X.K X.mg X.base
 kind:X.env.scope.kind=.function
 glob:X.env.globals=mainGlobals
 blt:X.env.builtins=builtinsNs
 above:X.s₀.heap.objs.size<=X.env.locals
 inj:∀x y c,X.env.cells.lookup x=some c->X.env.cells.lookup y=some c->x=y
 has:∀x,(X.env.kindOf x=some .cell\/X.env.kindOf x=some .free)->∃c,X.env.cells.lookup x=some c
 cab:∀x c,X.fn x=true->X.env.cells.lookup x=some c->X.s₀.heap.objs.size<=c
 hd:X.calm=true->X.A.handled=none
 frames:X.A.frames=some X.stack
 stk:X.stack=X.outer\/(X.stack=X.env::X.outer/\X.env.frame=some X.env.locals)
 exf:∀b∈X.ex,b≠X.env.locals/\∀x c,X.env.cells.lookup x=some c->c≠b
 bs:∀b o,X.base.get? b=some o->X.s₀.heap.get? b=some o/\X.H₀ b=none
 bsz:X.base.objs.size<=X.s₀.heap.objs.size
 noex:∀b o,X.base.get? b=some o->b∉X.ex
 exfs:∀b∈X.ex,b∉X.fs
 funs:X.s₀.heap.FunFrames X.base X.outer
 frf:∀b∈X.fs,X.H₀ b=none
structure Inv(X:Cx)(pins:LN)(σ:List (Option V))(H:Hp)(s:LP):Prop where
 ok:X.Ok
 os:s.os=X.s₀.os
 bare:AllBare s.gens
 base:Un X.fs X.ex X.H₀ H X.s₀.heap s.heap
 loc:∃m,s.heap.Ns X.env.locals m/\∀(i:Nat) (x:Str) (v:V),X.N[i]?=some x->σ[i]?=some (some v)->GX X.env.scope x->∃u,bG v u/\HC X.env s.heap m x u
 cell:∀x c,X.env.cells.lookup x=some c->∃v,s.heap.IsCell c v
 free:H X.env.locals=none
 freeC:∀x c,X.env.cells.lookup x=some c->H c=none
 pin:∀p∈X.pn++pins,s.heap.get? p.1=some p.2/\H p.1=none/\p.1≠X.env.locals/\p.1∉X.fs/\∀v,p.2.data≠.cell v
 hok:kr X.prog X.w H s.heap
 len:σ.length=X.N.length
section
variable {X:Cx}{pins:LN}{σ:List (Option V)}{H H':Hp}{s:LP}{h':Heap}
theorem Cx.Ok.nofr(ok:X.Ok){b:Addr}{o:Obj}(e:X.base.get? b=some o):b∉X.fs:=λhb=>by
 have:=(ok.funs.mem hb).1;rw[e]at this;cases this
theorem Inv.bs(I:Inv X pins σ H s):∀b o,X.base.get? b=some o->s.heap.get? b=some o/\H b=none:=λb o e=>
 ⟨I.base.keep b o (I.ok.bs b o e).1 (I.ok.bs b o e).2 (I.ok.nofr e) (I.ok.noex b o e),I.base.free b o (I.ok.bs b o e).1 (I.ok.bs b o e).2 (I.ok.noex b o e)⟩
theorem Inv.bk(I:Inv X pins σ H s):∀b o,X.base.get? b=some o->s.heap.get? b=some o:=λb o e=>(I.bs b o e).1
theorem Inv.mod(I:Inv X pins σ H s):Mod X.K X.mg X.base:=I.ok.mod
theorem Inv.kIn(I:Inv X pins σ H s):X.K.In s.heap:=I.ok.mod.kin.keeps I.bk
theorem Inv.lt(I:Inv X pins σ H s):X.env.locals<s.heap.objs.size:=let ⟨_,hn,_⟩:=I.loc;hn.lt
theorem Inv.sz(I:Inv X pins σ H s):X.s₀.heap.objs.size<=s.heap.objs.size:=Lj I.ok.above (q0P I.lt)
theorem Inv.nofs(I:Inv X pins σ H s){a:Addr}(h:s.heap.objs.size<=a):a∉X.fs:=λhb=>by
 obtain⟨_,o,ho,_⟩:=I.ok.funs.mem hb;exact q0Q (K8 (Le ho) (Lj I.sz h)) (Lk _)
theorem Inv.cne(I:Inv X pins σ H s):∀x c,X.env.cells.lookup x=some c->c≠X.env.locals:=λx c e z=>by
 obtain⟨v,o,ho,hd⟩:=I.cell x c e;obtain⟨m,⟨o',es,ep,ho',hd',_⟩,_⟩:=I.loc;rw[z,ho']at ho;cases ho;rw[hd']at hd;cases hd
theorem Inv.funs(I:Inv X pins σ H s):s.heap.FunFrames X.base X.outer:=by
 have all:∀(l:List Env),(∀b∈xT l,b∈X.fs)->X.s₀.heap.FunFrames X.base l->s.heap.FunFrames X.base l:=by
  intro l
  induction l with
  |nil=>intro _ _;trivial
  |cons env r ih=>
   intro j n;obtain⟨p,⟨L,o,a,m,k,q⟩,hr⟩:=n;have g:L∈X.fs:=j L (by unfold xT;rw[q0U,a];exact q0B);obtain⟨sl,e⟩:=I.base.slot L o k (I.ok.frf L g) g λz=>I.ok.exfs L z g;exact⟨p,⟨L,_,a,m,e,q⟩,ih (λb c=>j b (by unfold xT;rw[q0U,a];exact K6 _ c)) hr⟩
 exact all X.outer (λ_ c=>c) I.ok.funs
theorem Inv.stack(I:Inv X pins σ H s):s.heap.FunFrames X.base X.stack:=by
 rcases I.ok.stk with e | ⟨e,b⟩
 ·rw[e];exact I.funs
 ·rw[e]
  obtain⟨m,a,_⟩:=I.loc;refine .cons (by rw[I.ok.kind];decide) b a ?_ I.funs;exact Heap.get?_none_of_le (Lj I.ok.bsz I.ok.above)
theorem Inv.stkSub(I:Inv X pins σ H s):∀b∈xT X.stack,b∈X.env.locals::X.fs:=λb hb=>by
 rcases I.ok.stk with e | ⟨e,hf⟩
 ·rw[e]at hb;exact K6 _ hb
 ·rw[e]at hb
  unfold xT at hb;rw[q0U,hf]at hb;exact hb
theorem Inv.stkFree(I:Inv X pins σ H s):∀b∈xT X.stack,H b=none:=λb hb=>by
 rcases K5.mp (I.stkSub b hb) with e | hb
 ·rw[e];exact I.free
 ·obtain⟨_,o,ho,_⟩:=I.ok.funs.mem hb
  exact I.base.free b o ho (I.ok.frf b hb) λz=>I.ok.exfs b z hb
theorem Inv.step{t':Nat}{d':Drawn}{ch:LR}(I:Inv X pins σ H s)
  (hch:∀b∈ch,(b∈X.ex\/X.s₀.heap.objs.size<=b)/\b≠X.env.locals/\(∀x c,X.env.cells.lookup x=some c->c≠b)/\∀p∈X.pn++pins,p.1≠b)
  (keep:∀b o,b≠X.env.locals->b∉X.fs->b∉ch->s.heap.get? b=some o->H b=none->h'.get? b=some o)
  (slot:∀b o,b≠X.env.locals->b∈X.fs->b∉ch->s.heap.get? b=some o->H b=none->∃sl,h'.get? b=some {o with slots:=sl}) (free:∀b o,b∉ch->s.heap.get? b=some o->H b=none->H' b=none)
  (there:∀b o,b∉ch->s.heap.get? b=some o->∃o',h'.get? b=some o')
  (tups:∀b xs,H b=some (.tup xs)->H' b=some (.tup xs)) (frzs:∀b o u,H b=some (.frz o u)->H' b=some (.frz o u)) (tbls:∀b ps,H b=some (.tbl ps)->∃more,H' b=some (.tbl (ps++more)))
  (ns:∀m,s.heap.Ns X.env.locals m->h'.Ns X.env.locals m) (hok:kr X.prog X.w H' h') (hg:AllBare g') :
  Inv X pins σ H' {s with heap:=h',gens:=g',drawn:=d',toks:=t' }:=by
 have D:∀b o,X.s₀.heap.get? b=some o->b≠X.env.locals:=λb o e=>K9 (K8 (Le e) I.ok.above);have w:∀b o,X.s₀.heap.get? b=some o->b∉X.ex->b∉ch:=λb o e a B=>by
  rcases(hch b B).1 with z | z
  ·exact a z
  ·exact q0Q (K8 (Le e) z) (Lk _)
 have j:∀x c,X.env.cells.lookup x=some c->∀v,s.heap.IsCell c v->h'.IsCell c v:=λx c e v ⟨o,C,L⟩=>by
  have g:c∉ch:=λz=>(hch c z).2.2.1 x c e rfl
  by_cases S:c∈X.fs
  ·obtain⟨sl,q⟩:=slot c o (I.cne x c e) S g C (I.freeC x c e)
   exact⟨_,q,L⟩
  ·exact⟨o,keep c o (I.cne x c e) S g C (I.freeC x c e),L⟩
 refine⟨I.ok,I.os,hg,⟨λb o e n B a=>?_,λb o e n B a=>?_,λb o e n a=>?_,λb o e a=>?_,λb xs e=>tups b xs (I.base.tups b xs e),λb o xs e=>frzs b o xs (I.base.frzs b o xs e),λb ps e=>?_⟩,?_,λx c e=>?_,?_,λx c e=>?_,λp R=>?_,hok,I.len⟩
 ·exact keep b o (D b o e) B (w b o e a) (I.base.keep b o e n B a) (I.base.free b o e n a)
 ·obtain⟨sl,y⟩:=I.base.slot b o e n B a
  obtain⟨J,G⟩:=slot b _ (D b o e) B (w b o e a) y (I.base.free b o e n a);exact⟨J,G⟩
 ·obtain⟨o',y⟩:=I.base.there b o e a
  exact free b o' (w b o e a) y (I.base.free b o e n a)
 ·obtain⟨o',y⟩:=I.base.there b o e a
  exact there b o' (w b o e a) y
 ·obtain⟨m1,y⟩:=I.base.tbls b ps e
  obtain⟨T,G⟩:=tbls b _ y;exact⟨m1++T,by rw[G,Array.append_assoc]⟩
 ·obtain⟨m,U,Y⟩:=I.loc
  refine⟨m,ns m U,λi x v y G Z=>?_⟩;obtain⟨u,r,l⟩:=Y i x v y G Z;refine⟨u,r,?_⟩;rcases l with l | ⟨k,c,e,z⟩
  ·exact .inl l
  ·exact .inr ⟨k,c,e,j x c e _ z⟩
 ·obtain⟨v,z⟩:=I.cell x c e
  exact⟨v,j x c e v z⟩
 ·obtain⟨m,⟨o,_,_,C,_⟩,_⟩:=I.loc
  exact free _ o (λz=>(hch _ z).2.1 rfl) C I.free
 ·obtain⟨v,o,C,L⟩:=I.cell x c e
  exact free c o (λz=>(hch c z).2.2.1 x c e rfl) C (I.freeC x c e)
 ·obtain⟨e,n,O,M,d⟩:=I.pin p R
  have g:p.1∉ch:=λz=>(hch p.1 z).2.2.2 p R rfl;exact⟨keep p.1 p.2 O M g e n,free p.1 p.2 g e n,O,M,d⟩
theorem Inv.un{t':Nat}(I:Inv X pins σ H s)(u:Un X.fs [] H H' s.heap h')(hok:kr X.prog X.w H' h'):Inv X pins σ H' {s with heap:=h',toks:=t' }:=by
 obtain⟨m,⟨o,es,ep,k,r⟩,_⟩:=id I.loc;obtain⟨sl,q⟩:=u.any k I.free (by simp);exact I.step (g':=s.gens) (d':=s.drawn) (ch:=[]) (λ_ z=>nomatch z) (λb o _ c _ e n=>u.keep b o e n c (by simp)) (λb o _ c _ e n=>u.slot b o e n c (by simp)) (λb o _ e n=>u.free b o e n (by simp)) (λb o _ e=>u.there b o e (by simp)) u.tups u.frzs u.tbls (λm' p=>by
  obtain⟨o',g,j,a,l⟩:=p;rw[k]at a;cases a
  exact⟨_,g,j,q,l⟩) hok I.bare
theorem Inv.call{t':Nat}{d':Drawn}{ch:LR}(I:Inv X pins σ H s)(u:Un (xT X.stack) ch H H' s.heap h')(hok:kr X.prog X.w H' h')(hg:AllBare g')
  (hch:∀b∈ch,(b∈X.ex\/X.s₀.heap.objs.size<=b)/\b≠X.env.locals/\(∀x c,X.env.cells.lookup x=some c->c≠b)/\∀p∈X.pn++pins,p.1≠b) :
  Inv X pins σ H' {s with heap:=h',gens:=g',drawn:=d',toks:=t' }:=by
 obtain⟨m,⟨o,es,ep,q,r⟩,_⟩:=id I.loc;obtain⟨sl,j⟩:=u.any q I.free λz=>(hch _ z).2.1 rfl;exact I.step (ch:=ch) hch (λb o j y a e n=>u.keep b o e n (λz=>(K5.mp (I.stkSub b z)).elim j y) a) (λb o _ _ a e n=>u.any e n a) (λb o a e n=>u.free b o e n a) (λb o a e=>u.there b o e a) u.tups u.frzs u.tbls (λm' w=>by
  obtain⟨o',k,l,g,v⟩:=w;rw[q]at g;cases g
  exact⟨_,k,l,j,v⟩) hok hg
theorem Inv.turned{t':Nat}{it:Addr}(I:Inv X pins σ H s)(k:∀b o,b≠it->s.heap.get? b=some o->h'.get? b=some o)(hn:H it=none)(hL:it≠X.env.locals)
  (h1:it∈X.ex\/X.s₀.heap.objs.size<=it) (h2:∀x c,X.env.cells.lookup x=some c->c≠it) (h3:∀p∈X.pn++pins,p.1≠it):Inv X pins σ H {s with heap:=h',toks:=t' }:=by
 have g:∀b u,H b=some u->b≠it:=λb u e z=>by rw[z,hn]at e;cases e
 refine I.step (g':=s.gens) (d':=s.drawn) (ch:=[it]) (λb w=>?_) (λb o _ _ a e _=>k b o (λz=>a (by simp[z])) e) (λb o _ _ a e _=>⟨o.slots,k b o (λz=>a (by simp[z])) e⟩) (λ_ _ _ _ n=>n)
  (λb o a e=>⟨o,k b o (λz=>a (by simp[z])) e⟩) (λ_ _ e=>e) (λ_ _ _ e=>e) (λb ps e=>⟨#[],by rw[e];simp⟩) (λm l=>?_) (λb u e=>?_) I.bare
 ·have e:b=it:=by simpa using w
  subst e;exact⟨h1,hL,h2,h3⟩
 ·obtain⟨o,y,B,j,r⟩:=l
  exact⟨o,y,B,k _ o (Ne.symm hL) j,r⟩
 ·refine(I.hok b u e).stay (λc v a q=>k c v ?_ q) (λ_ q=>q) λ_ _ q=>q
  rcases a with z | z
  ·rw[z];exact g b u e
  ·exact g c _ z
theorem Inv.tok(I:Inv X pins σ H s)(t:Nat):Inv X pins σ H {s with toks:=t}:=I.un (h':=s.heap) (t':=t) Un.refl I.hok
theorem Inv.kept{t':Nat}(I:Inv X pins σ H s)(k:∀b u,s.heap.get? b=some u->h'.get? b=some u):Inv X pins σ H {s with heap:=h',toks:=t' }:=I.un (Un.kept k) (I.hok.kept k)
theorem Inv.laid{a:Addr}{t':Nat}(I:Inv X pins σ H s)(k:∀b u,s.heap.get? b=some u->h'.get? b=some u)(hp:s.heap.objs.size<=a)(new:cG X.prog X.w (aD H a o) h' a o) :
  Inv X pins σ (aD H a o) {s with heap:=h',toks:=t' }:=I.un (Un.laid k hp (I.hok.fresh hp)) (I.hok.laid k hp new)
theorem Inv.write{e:Addr}{t':Nat}(I:Inv X pins σ H s)(mu:Go (H x))(he:e=x\/H e=some (.own x))(k:∀b u,b≠e->s.heap.get? b=some u->h'.get? b=some u)(heo:∃u,h'.get? e=some u)
  (new:cG X.prog X.w (aD H x o) h' x o):Inv X pins σ (aD H x o) {s with heap:=h',toks:=t' }:=I.un (Un.write mu he k heo) (I.hok.write mu he k heo new)
theorem Inv.pins_of{pins':LN}(I:Inv X pins σ H s)(h:∀p∈pins',s.heap.get? p.1=some p.2/\H p.1=none/\p.1≠X.env.locals/\p.1∉X.fs/\∀v,p.2.data≠.cell v):Inv X pins' σ H s:=
 ⟨I.ok,I.os,I.bare,I.base,I.loc,I.cell,I.free,I.freeC,λp hp=>(K3.mp hp).elim (λz=>I.pin p (q0D _ z)) (h p),I.hok,I.len⟩
theorem u_{N:LW}(hN:N.Nodup){i j:Nat}{x:Str}(a:N[i]?=some x)(b:N[j]?=some x):i=j:=by
 obtain⟨h1,e⟩:=KM.mp a;obtain⟨h2,c⟩:=KM.mp b;exact(List.getElem_inj hN).mp (e.trans c.symm)
theorem rC{i:Nat}{x:Str}{Q:Unit->Shared->Prop}(I:Inv X pins σ H s)(hN:X.N.Nodup)(hi:X.N[i]?=some x)(hx:Loc X.env.scope x)(r:bG v u)
  (h:∀s',Inv X pins (σ.set i (some v)) H s'->(∃a,Heap.SameBut a s.heap s'.heap/\(a=X.env.locals\/X.env.cells.lookup x=some a))->Q () s') (hf:autoParam (X.fn x=true\/X.env.scope.names.lookup x=some .local) zz3._auto_1):wpAny M A (storeName X.env x u) Q E s:=by
 obtain⟨m,hn,hl⟩:=id I.loc;have U:(X.env.scope.kind==.class||(X.env.scope.kind==.module&&X.env.locals != X.env.globals))=false:=by rw[I.ok.kind];rfl
 have T:i<σ.length:=by rw[I.len];exact(KM.mp hi).1
 have cne:=I.cne;have l:∀{a:Addr} {O:Heap},(∃o,s.heap.get? a=some o/\H a=none)->Heap.SameBut a s.heap O->kr X.prog X.w H O:=fun{a O} ha g b ob e=>by
  obtain⟨_,_,C⟩:=ha;refine(I.hok b ob e).stay (λc w' hc q=>(g.2 c ?_).trans q) (λ_ q=>q) λ_ _ q=>q;rintro rfl;rcases hc with rfl | hc
  ·rw[C]at e;cases e
  ·rw[C]at hc;cases hc
 rcases hx with hk | hk
 ·refine wpAny_storeName_local hk hn (λO a1 g=>?_) U
  obtain⟨oL,_,_,a0,_⟩:=id hn;refine h _ ⟨I.ok,I.os,I.bare,⟨λb o e n L hx=>?_,λb o e n L hx=>?_,I.base.free,λb o e hx=>?_,I.base.tups,I.base.frzs,I.base.tbls⟩,⟨_,a1,λj y v' B D e3=>?_⟩,λy c e=>?_,I.free,I.freeC,λp hp=>?_,l ⟨oL,a0,I.free⟩ g,by simpa using I.len⟩ ⟨_,g,.inl rfl⟩
  ·exact(g.2 b (K9 (K8 (Le e) I.ok.above))).trans (I.base.keep b o e n L hx)
  ·obtain⟨sl,B⟩:=I.base.slot b o e n L hx
   exact⟨sl,(g.2 b (K9 (K8 (Le e) I.ok.above))).trans B⟩
  ·obtain⟨o',B⟩:=I.base.there b o e hx
   exact⟨o',(g.2 b (K9 (K8 (Le e) I.ok.above))).trans B⟩
  ·by_cases G:j=i
   ·subst G
    rw[hi]at B;cases B
    rw[Lo T]at D;cases D;exact⟨u,r,.inl ⟨hk,by simp⟩⟩
   ·rw[List.getElem?_set_ne (Ne.symm G)]at D
    obtain⟨u',r',q⟩:=hl j y v' B D e3;refine⟨u',r',?_⟩;rcases q with⟨k,e⟩ | ⟨k,c,e,z⟩
    ·refine .inl ⟨k,?_⟩
     have:y≠x:=λe=>G (u_ hN B (e▸hi));simp[this,e]
    ·exact .inr ⟨k,c,e,z.sameBut g (cne y c e)⟩
  ·obtain⟨w',z⟩:=I.cell y c e
   exact⟨w',z.sameBut g (cne y c e)⟩
  ·obtain⟨e,n,ne,nf,d⟩:=I.pin p hp
   exact⟨(g.2 p.1 ne).trans e,n,ne,nf,d⟩
 ·have J:X.fn x=true:=by
   rcases hf with z | z
   ·exact z
   ·rw[z]at hk;cases hk
  obtain⟨c,hc⟩:=I.ok.has x (.inl hk);obtain⟨w',z⟩:=I.cell x c hc;refine wpAny_storeName_cell I.ok.kind hk hc z (λO Z g=>?_);obtain⟨oc,S,R⟩:=id z;refine h {s with heap:=O } ⟨I.ok,I.os,I.bare,⟨λb o e n L hx=>?_,λb o e n L hx=>?_,I.base.free,λb o e hx=>?_,I.base.tups,I.base.frzs,I.base.tbls⟩,⟨m,hn.sameBut g (Ne.symm (cne x c hc)),λj y v' B D e3=>?_⟩,λy c' e=>?_,I.free,I.freeC,λp hp=>?_,l ⟨oc,S,I.freeC x c hc⟩ g,by simpa using I.len⟩ ⟨c,g,.inr hc⟩
  ·exact(g.2 b (K9 (K8 (Le e) (I.ok.cab x c J hc)))).trans (I.base.keep b o e n L hx)
  ·obtain⟨sl,B⟩:=I.base.slot b o e n L hx
   exact⟨sl,(g.2 b (K9 (K8 (Le e) (I.ok.cab x c J hc)))).trans B⟩
  ·obtain⟨o',B⟩:=I.base.there b o e hx
   exact⟨o',(g.2 b (K9 (K8 (Le e) (I.ok.cab x c J hc)))).trans B⟩
  ·by_cases G:j=i
   ·subst G
    rw[hi]at B;cases B
    rw[Lo T]at D;cases D;exact⟨u,r,.inr ⟨.inl hk,c,hc,Z⟩⟩
   ·rw[List.getElem?_set_ne (Ne.symm G)]at D
    obtain⟨u',r',q⟩:=hl j y v' B D e3;refine⟨u',r',?_⟩;rcases q with q | ⟨k,c',e,z'⟩
    ·exact .inl q
    ·refine .inr ⟨k,c',e,z'.sameBut g ?_⟩
     rintro rfl;exact G (u_ hN B (I.ok.inj _ _ _ e hc▸hi))
  ·by_cases Y:c'=c
   ·subst Y;exact⟨_,Z⟩
   ·obtain⟨w2,z2⟩:=I.cell y c' e
    exact⟨w2,z2.sameBut g Y⟩
  ·obtain⟨e,n,ne,nf,d⟩:=I.pin p hp
   refine⟨(g.2 p.1 ?_).trans e,n,ne,nf,d⟩;intro q;rw[q,S]at e;have q':oc=p.2:=q0S e;exact d w' (by rw[<- q'];exact R)
theorem vJ{i:Nat}{x:Str}{Q:Unit->Shared->Prop}(I:Inv X pins σ H s)(hN:X.N.Nodup)(hi:X.N[i]?=some x)(hx:Loc X.env.scope x)(r:bG v u)
  (h:∀s',Inv X pins (σ.set i (some v)) H s'->Q () s') (hf:autoParam (X.fn x=true\/X.env.scope.names.lookup x=some .local) zz3._auto_1):wpAny M A (storeName X.env x u) Q E s:=
 rC I hN hi hx r (λs' I' _=>h s' I') hf
theorem Inv.call'{s':LP}{ch:LR}(I:Inv X pins σ H s)(ho:s'.os=s.os)(u:Un (xT X.stack) ch H H' s.heap s'.heap)(hok:kr X.prog X.w H' s'.heap)(hg:AllBare s'.gens)
  (hch:∀b∈ch,(b∈X.ex\/X.s₀.heap.objs.size<=b)/\b≠X.env.locals/\(∀x c,X.env.cells.lookup x=some c->c≠b)/\∀p∈X.pn++pins,p.1≠b):Inv X pins σ H' s':=by
 obtain⟨h',g',d',t',a⟩:=s';have e:a=s.os:=ho;subst e;exact I.call (g':=g') (t':=t') (d':=d') u hok hg hch
end
abbrev XK:=Value->Option Addr->Hp->Prop
abbrev St:=List (Option V)
abbrev VK:=V->Hp->Prop
abbrev TE:=St->Hp->VK->Prop
abbrev TT:=St->Hp->(Bool->Hp->Prop)->Prop
abbrev TA:=St->Hp->(List V->Hp->Prop)->Prop
structure gO where
 nx:St->Hp->Prop
 rt:VK
 bk:St->Hp->Prop:=λ_ _=>False
 ct:St->Hp->Prop:=λ_ _=>False
abbrev TS:=gO->St->Hp->Prop
inductive EP(X:Cx)(pins:LN)(σ:St)(Q:VK)(u:Value)(s':LP):Prop|mk (v:V)(H':Hp)(_:Inv X pins σ H' s')(_:bG v u)(_:Q v H')
inductive TP(X:Cx)(pins:LN)(σ:St)(Q:Bool->Hp->Prop)(b:Bool)(s':LP):Prop|mk (H':Hp)(_:Inv X pins σ H' s')(_:Q b H')
inductive AP(X:Cx)(pins:LN)(σ:St)(Q:List V->Hp->Prop)(us:LQ)(s':LP):Prop|mk (vs:List V)(H':Hp)(_:Inv X pins σ H' s')(_:bh vs us)(_:Q vs H')
inductive SN(X:Cx)(pins:LN)(D:St->Hp->Prop)(s':LP):Prop|mk(σ':St)(H':Hp)(_:Inv X pins σ' H' s')(_:D σ' H')
inductive SR(X:Cx)(pins:LN)(D:V->Hp->Prop)(u:Value)(s':LP):Prop|mk(v:V)(σ':St)(H':Hp)(_:Inv X pins σ' H' s')(_:bG v u)(_:D v H')
inductive SH(X:Cx)(pins:LN)(σ:St)(D:Hp->Prop)(s':LP):Prop|mk(H':Hp)(_:Inv X pins σ H' s')(_:D H')
def SP(X:Cx)(pins:LN)(D:gO)(f:Flow)(s':LP):Prop:=
 match f with
 | .next=>SN X pins D.nx s'
 | .brk=>SN X pins D.bk s'
 | .cont=>SN X pins D.ct s'
 | .ret u=>SR X pins D.rt u s'
def PE(X:Cx)(e:Expr)(t:TE):Prop:=
 ∀(pins:LN) (s:LP) (σ:St) (H:Hp) (Q:VK),Inv X pins σ H s->t σ H Q->wpAny d⁻¹ X.A (eval e X.env) (EP X pins σ Q) X.xe s
def PT(X:Cx)(e:Expr)(t:TT):Prop:=
 ∀(pins:LN) (s:LP) (σ:St) (H:Hp) (Q:Bool->Hp->Prop),Inv X pins σ H s->t σ H Q->wpAny d⁻¹ X.A (isTrue e X.env (eval e X.env)) (TP X pins σ Q) X.xe s
def PW(X:Cx)(e:Expr)(t:TT):Prop:=
 ∀(whole:Sem Value) (pins:LN) (s:LP) (σ:St) (H:Hp) (Q:Bool->Hp->Prop),Inv X pins σ H s->t σ H Q->wpAny d⁻¹ X.A (isTrue e X.env whole) (TP X pins σ Q) X.xe s
theorem PW.pt{t:TT}(h:PW X e t):PT X e t:=h _
def PA(X:Cx)(es:L3)(t:TA):Prop:=
 ∀(pos:Pos) (pins:LN) (s:LP) (σ:St) (H:Hp) (Q:List V->Hp->Prop),Inv X pins σ H s->t σ H Q->wpAny d⁻¹ X.A (spliced (backTo pos (starEach es X.env))) (AP X pins σ Q) X.xe s
def PS(X:Cx)(st:Stmt)(t:TS):Prop:=
 ∀(pins:LN) (s:LP) (σ:St) (H:Hp) (D:gO),Inv X pins σ H s->t D σ H->wpAny d⁻¹ X.A (exec st X.env) (SP X pins D) X.xe s
def wg(X:Cx)(st:List Stmt)(t:TS):Prop:=
 ∀(pins:LN) (s:LP) (σ:St) (H:Hp) (D:gO),Inv X pins σ H s->t D σ H->wpAny d⁻¹ X.A (execs st X.env) (SP X pins D) X.xe s
theorem ci{α:Type}{t:Sem α}{Q Q':α->Shared->Prop}{s:LP}(h:wpAny M A t Q E s)(hQ:∀a s,Q a s->Q' a s):wpAny M A t Q' E s:=q0X h hQ λ_ _ x=>x
section
variable {X:Cx}
def CF(i:Nat):TE:=λσ H Q=>∃v,σ[i]?=some (some v)/\Q v H
def tC(v:V):TE:=λ_ H Q=>Q v H
theorem FU{i:Nat}{x:Str}{pos:Pos}(hN:X.N[i]?=some x)(hv:GX X.env.scope x)(hd:autoParam g⁻¹ zz1._auto_1)(hcd:autoParam ((x==("__classdict__":Str))=false) zz1._auto_1):PE X (.Name x pos) (CF i):=by
 intro b s σ H Q I h;obtain⟨v,e,h⟩:=h;obtain⟨m,j,n⟩:=I.loc;obtain⟨u,r,l⟩:=n i x v hN e hv;have fin:EP X b σ Q u s:=⟨v,H,I,r,h⟩;rcases l with⟨hk,k⟩ | ⟨hk,c,g,a⟩
 ·exact wpAny_Name (wpAny_loadName_local I.ok.kind hk j k fin) hd
 ·rcases hk with hk | hk
  ·exact wpAny_Name (wpAny_loadName_cell I.ok.kind hk g a fin) hd
  ·exact wpAny_Name (wpAny_loadName_free I.ok.kind hk g a fin hcd) hd
theorem ai{i j pos}:PE X (.Constant (.int i) j pos) (tC (.int i)):=λ_ _ _ H _ I h=>wpAny_Constant_int ⟨.int i,H,I.tok _,⟨_,rfl⟩,h⟩
theorem nj{b j pos}:PE X (.Constant (.bool b) j pos) (tC (.bl b)):=λ_ _ _ H _ I h=>Constant_bool ⟨.bl b,H,I,rfl,h⟩
theorem cN{j pos}:PE X (.Constant .none j pos) (tC .non):=λ_ _ _ H _ I h=>Constant_none ⟨.non,H,I,rfl,h⟩
theorem pU{x j pos}:PE X (.Constant (.str x) j pos) (tC (.str x)):=λ_ _ _ H _ I h=>Calls.Constant_str ⟨.str x,H,I.tok _,⟨_,rfl⟩,h⟩
def Gl(X:Cx)(x:Str):Prop:=X.env.kindOf x=some .globalImplicit
theorem oa{pins:LN}{σ:St}{u:Value}{pos:Pos}{Q:LL}(I:Inv X pins σ H s)(hg:Gl X x)(hm:X.mg x=some u)(h:Q u s)
  (hd:autoParam g⁻¹ zz1._auto_1):wpAny d⁻¹ X.A (eval (.Name x pos) X.env) Q E s:=
 Calls.Name_function_global I.ok.kind hg (Calls.loadGlobal_global (by rw[I.ok.glob];exact I.mod.glob.keeps I.bk) hm h) hd
theorem fc{pins:LN}{σ:St}{u:Value}{pos:Pos}{Q:LL}(I:Inv X pins σ H s)(hg:Gl X x)(hm:X.mg x=none)(hv:bootBuiltins x=some u)(h:Q u s)
  (hn:autoParam (x≠"__name__") zz1._auto_1) (hd:autoParam g⁻¹ zz1._auto_1):wpAny d⁻¹ X.A (eval (.Name x pos) X.env) Q E s:=by
 obtain⟨mb,h1,h2⟩:=I.mod.blt;exact Calls.Name_function_global I.ok.kind hg (Calls.loadGlobal_builtin (by rw[I.ok.glob];exact I.mod.glob.keeps I.bk) hm (by rw[I.ok.blt];exact h1.keeps I.bk) ((h2 x hn).trans hv) h) hd
theorem cW{u:Value}{pos:Pos}(hg:Gl X x)(hm:X.mg x=some u)(r:bG v u)(hd:autoParam g⁻¹ zz1._auto_1):PE X (.Name x pos) (tC v):=
 λ_ _ _ H _ I h=>oa I hg hm ⟨v,H,I,r,h⟩ hd
theorem t9{u:Value}{pos:Pos}(hg:Gl X x)(hm:X.mg x=none)(hv:bootBuiltins x=some u)(r:bG v u)(hn:autoParam (x≠"__name__") zz1._auto_1)(hd:autoParam g⁻¹ zz1._auto_1):PE X (.Name x pos) (tC v):=
 λ_ _ _ H _ I h=>fc I hg hm hv ⟨v,H,I,r,h⟩ hn hd
variable {a b:Expr}{ta tb:TE}{pos:Pos}
def PC(X:Cx)(op:CmpOp)(a b:Expr)(t:TE):Prop:=
 ∀(pins:LN) (s:LP) (σ:St) (H:Hp) (Q:VK),Inv X pins σ H s->t σ H Q ->
  wpAny d⁻¹ X.A (eval a X.env) (λv s₁=>wpAny d⁻¹ X.A (eval b X.env) (λu s₂=>wpAny d⁻¹ X.A (compareOp op v u) (EP X pins σ Q) X.xe s₂) X.xe s₁) X.xe s
theorem Br(b:Expr){op:CmpOp}(h:op≠.In)(h2:op≠.NotIn):behindInMarks op b=false:=by
 have c:(op==CmpOp.In)=false:=by cases op<;>first | rfl | exact q0Q rfl h
 have a:(op==CmpOp.NotIn)=false:=by cases op<;>first | rfl | exact q0Q rfl h2
 cases b<;>simp[behindInMarks,c,a]
def tB(t:TE):TT:=λσ H Q=>t σ H λx H1=>∃c,x=.bl c/\Q c H1
theorem mD{op:CmpOp}{t:TE}(h:PC X op a b t)(h1:behindInMarks op b=false:=by first | exact Br _ b⁻¹ b⁻¹ | rfl):PT X (.Compare a [op] [b] pos) (tB t):=by
 intro e s σ H Q I hw;refine wpAny_isTrue_Compare1 (ci (h e s σ H _ I hw) λv s1 h1=>ci h1 λu s2 h2=>ci h2 λc s3 ⟨x,H1,k,g,j⟩=>?_) h1;obtain⟨d,rfl,q⟩:=j;cases g;exact wpAny_truthy_bool ⟨H1,k,q⟩
variable {tA tB':TT}{b_:L3}
def Fp(t u:TT):TT:=λσ H Q=>t σ H λc H1=>if c=true then u σ H1 Q else Q false H1
def Hf(t u:TT):TT:=λσ H Q=>t σ H λc H1=>if c=true then Q true H1 else u σ H1 Q
def FS(t:TT):TT:=λσ H Q=>t σ H λc H1=>Q (!c) H1
theorem fB(ha:PT X a tA):PW X (.BoolOp .And [a] pos) tA:=by
 intro wh b s σ H Q I h;refine isTrue_and (ci (ha b s σ H Q I h) λc s1 e=>?_);cases c with
 |true=>exact isTrue_and_nil e
 |false=>exact e
theorem iK(ha:PT X a tA):PW X (.BoolOp .Or [a] pos) tA:=by
 intro wh b s σ H Q I h;refine isTrue_or (ci (ha b s σ H Q I h) λc s1 e=>?_);cases c with
 |false=>exact isTrue_or_nil e
 |true=>exact e
theorem gK(ha:PT X a tA)(hb:PW X (.BoolOp .And (b::b_) pos) tB'):PW X (.BoolOp .And (a::b::b_) pos) (Fp tA tB'):=by
 intro k e s σ H Q I h;refine isTrue_and (ci (ha e s σ H _ I h) λc l ⟨H1,j,g⟩=>?_);cases c with
 |true=>exact hb k e l σ H1 Q j g
 |false=>exact⟨H1,j,g⟩
theorem kh(ha:PT X a tA)(hb:PW X (.BoolOp .Or (b::b_) pos) tB'):PW X (.BoolOp .Or (a::b::b_) pos) (Hf tA tB'):=by
 intro k e s σ H Q I h;refine isTrue_or (ci (ha e s σ H _ I h) λc l ⟨H1,j,g⟩=>?_);cases c with
 |true=>exact⟨H1,j,g⟩
 |false=>exact hb k e l σ H1 Q j g
theorem iF(ha:PT X a tA):PT X (.UnaryOp .Not a pos) (FS tA):=by
 intro b s σ H Q I h;exact isTrue_not (ci (ha b s σ H (λc H1=>Q (!c) H1) I h) λ_ _ ⟨H1,g,q⟩=>⟨H1,g,q⟩)
def AI(ta tb:TE):TE:=λσ H Q=>ta σ H λx H1=>∃c,x=.bl c/\if c=true then tb σ H1 Q else Q (.bl false) H1
def AU(ta:TE):TE:=λσ H Q=>ta σ H λx H1=>∃c,x=.bl c/\Q (.bl (!c)) H1
theorem mR{op}{t:TE}(h:PE X a t):PE X (.BoolOp op [a] pos) t:=λpins s σ H Q I hw=>BoolOp_one (h pins s σ H Q I hw)
theorem jc(ha:PE X a ta)(hb:PE X (.BoolOp .And (b::b_) pos) tb):PE X (.BoolOp .And (a::b::b_) pos) (AI ta tb):=by
 intro e s σ H Q I h;refine BoolOp_and (ci (ha e s σ H _ I h) λv k ⟨x,H1,j,l,g⟩=>?_);obtain⟨c,rfl,g⟩:=g;cases l;refine wpAny_truthy_bool ?_;cases c with
 |true=>exact hb e k σ H1 Q j g
 |false=>exact⟨.bl false,H1,j,rfl,g⟩
theorem Bz(ha:PE X a ta):PE X (.UnaryOp .Not a pos) (AU ta):=by
 intro b s σ H Q I h;refine UnaryOp_ (ci (ha b s σ H _ I h) λv s1 ⟨x,H1,j,g,e⟩=>?_);obtain⟨c,rfl,e⟩:=e;cases g;exact not_of (wpAny_truthy_bool ⟨.bl (!c),H1,j,rfl,e⟩)
def HD(t:TT)(ta tb:TE):TE:=λσ H Q=>t σ H λc H1=>if c=true then ta σ H1 Q else tb σ H1 Q
theorem A9(hc:PT X c tA)(ha:PE X a ta)(hb:PE X b tb):PE X (.IfExp c a b pos) (HD tA ta tb):=by
 intro e s σ H Q I h;refine wpAny_IfExp (ci (hc e s σ H _ I h) λd g ⟨H1,k,j⟩=>?_);cases d with
 |true=>exact ha e g σ H1 Q k j
 |false=>exact hb e g σ H1 Q k j
end
def aQ(K:LM)(H:Hp)(a:Addr)(xs:List V):Prop:=
 Rd H a (.lst xs) \/
  ∃(o:Obj) (its:Array Value) (n:Nat),K.lookup a=some o/\o.cls=.type "list"/\o.dict=none/\o.data=.seq its n/\its.size<=sizeLine/\bh xs its.toList
def cR(K:LM)(H:Hp)(a:Addr)(xs:List V):Prop:=
 Rd H a (.tup xs) \/
  ∃(o:Obj) (its:Array Value) (n:Nat),K.lookup a=some o/\o.cls=.type "tuple"/\o.data=.seq its n/\its.size<=sizeLine/\bh xs its.toList
def Hs:Value->Option V
 | .none=>some .non
 | .bool b=>some (.bl b)
 | .int i _=>some (.int i)
 | .str x _=>some (.str x)
 | .bytes b _=>some (.byt b)
 | .float b _=>some (.flt b)
 | .ref a=>some (.ref a)
 | .type n=>some (.ty n)
 |_=>none
theorem bG.abs(r:bG x u):Hs u=some x:=by
 cases x with
 |non=>cases r;rfl
 |bl _=>cases r;rfl
 |int _=>obtain⟨t,rfl⟩:=r;rfl
 |str _=>obtain⟨t,rfl⟩:=r;rfl
 |byt _=>obtain⟨t,rfl⟩:=r;rfl
 |flt _=>obtain⟨t,rfl⟩:=r;rfl
 |ref _=>cases r;rfl
 |ty _=>cases r;rfl
theorem bG.inj(r:bG x u)(q:bG y u):x=y:=q0S (r.abs.symm.trans q.abs)
theorem bh.inj:∀{xs ys:List V} {us:LQ},bh xs us->bh ys us->xs=ys
 |_,_,_,.nil,.nil=>rfl
 |_,_,_,.cons r t,.cons r' t'=>by rw[r.inj r',bh.inj t t']
section
variable {X:Cx}{pins:LN}{σ:St}{H:Hp}{s:LP}{a:Addr}{xs ys:List V}
theorem aQ.of{K:LM}(h:H a=some (.lst xs)):aQ K H a xs:=.inl (.inl h)
theorem cR.of{K:LM}(h:H a=some (.tup xs)):cR K H a xs:=.inl (.inl h)
theorem Inv.list(I:Inv X pins σ H s)(h:aQ X.K H a xs):∃its:List Value,bh xs its/\PlainL s.heap a its.toArray/\xs.length<=sizeLine:=by
 rcases h with h | ⟨o,its,n,c,j,g,b,hz,r⟩
 ·obtain⟨z,its,n,r,e⟩:=h.ok I.hok
  exact⟨its,r,⟨_,n,e,rfl,rfl,rfl⟩,z⟩
 ·refine⟨its.toList,r,⟨o,n,I.kIn a o c,j,g,by simpa using b⟩,?_⟩
  have e:=r.length;simp only[Array.length_toList]at e;omega
theorem Inv.tuple(I:Inv X pins σ H s)(h:cR X.K H a xs):∃its:List Value,bh xs its/\IsTup s.heap a its.toArray/\xs.length<=sizeLine:=by
 rcases h with h | ⟨o,its,n,c,g,b,hz,r⟩
 ·obtain⟨z,its,r,p⟩:=h.ok I.hok
  exact⟨its,r,p,z⟩
 ·refine⟨its.toList,r,⟨o,I.kIn a o c,g,n,by simpa using b⟩,?_⟩
  have e:=r.length;simp only[Array.length_toList]at e;omega
theorem Inv.list_inj(I:Inv X pins σ H s)(h:aQ X.K H a xs)(h':aQ X.K H a ys):xs=ys:=by
 obtain⟨c,r,⟨o,n,e,_,_,d⟩,_⟩:=I.list h;obtain⟨b,k,⟨o',n',g,_,_,j⟩,_⟩:=I.list h';rw[e]at g;cases g
 rw[d]at j
 injection j with d1 _
 have:c=b:=by simpa using q0R Array.toList d1
 subst this;exact r.inj k
end
abbrev Cx.wish(X:Cx)(E:LL):Cx:={X with xe:=E}
abbrev Cx.nox(X:Cx):Cx:=X.wish λ_ _=>False
theorem Cx.Ok.wish{X:Cx}(ok:X.Ok)(E:LL):(X.wish E).Ok:=
 ⟨ok.mod,ok.kind,ok.glob,ok.blt,ok.above,ok.inj,ok.has,ok.cab,ok.hd,ok.frames,ok.stk,ok.exf,ok.bs,ok.bsz,ok.noex,ok.exfs,ok.funs,ok.frf⟩
theorem Cx.Ok.unwish{X:Cx}(ok:(X.wish E).Ok):X.Ok:=
 ⟨ok.mod,ok.kind,ok.glob,ok.blt,ok.above,ok.inj,ok.has,ok.cab,ok.hd,ok.frames,ok.stk,ok.exf,ok.bs,ok.bsz,ok.noex,ok.exfs,ok.funs,ok.frf⟩
section
variable {X:Cx}{pins:LN}{σ:St}{H:Hp}{s:LP}{E:LL}
theorem Inv.wish(I:Inv X pins σ H s)(E:LL):Inv (X.wish E) pins σ H s:=⟨I.ok.wish E,I.os,I.bare,I.base,I.loc,I.cell,I.free,I.freeC,I.pin,I.hok,I.len⟩
theorem Inv.unwish(I:Inv (X.wish E) pins σ H s):Inv X pins σ H s:=⟨I.ok.unwish,I.os,I.bare,I.base,I.loc,I.cell,I.free,I.freeC,I.pin,I.hok,I.len⟩
theorem SP.unwish{f:Flow}(h:SP (X.wish E) pins D f s'):SP X pins D f s':=by
 cases f with
 |next=>obtain⟨σ',a,I,q⟩:=h;exact⟨σ',a,I.unwish,q⟩
 |brk=>obtain⟨σ',a,I,q⟩:=h;exact⟨σ',a,I.unwish,q⟩
 |cont=>obtain⟨σ',a,I,q⟩:=h;exact⟨σ',a,I.unwish,q⟩
 |ret u=>obtain⟨v,σ',a,I,r,q⟩:=h;exact⟨v,σ',a,I.unwish,r,q⟩
theorem wg.nox{st:List Stmt}{t:TS}(h:wg X.nox st t):wg X st t:=λpins s σ H D I hw=>
 q0X (h pins s σ H D (I.wish _) hw) (λ_ _ q=>q.unwish) λ_ _ z=>False.elim z
end
section
variable {X:Cx}{st:Stmt}{b_:List Stmt}{t u:TS}{e:Expr}{te:TE}{pos:Pos}
def CO:TS:=λD σ H=>D.nx σ H
def Ap(t u:TS):TS:=λD σ H=>t {D with nx:=u D} σ H
theorem aW:wg X [] CO:=λ_ _ σ H _ I h=>wpAny_execs_nil ⟨σ,H,I,h⟩
theorem ae(h1:PS X st t)(h2:wg X b_ u):wg X (st::b_) (Ap t u):=by
 intro a s σ H D I h;refine wpAny_execs_cons (ci (h1 a s σ H {D with nx:=u D} I h) λf b q=>?_);cases f with
 |next=>
  obtain⟨σ',e,c,q⟩:=q;exact h2 a b σ' e D c q
 |ret v=>exact q
 |brk=>exact q
 |cont=>exact q
theorem ag(h1:PS X st t):wg X [st] t:=by
 intro a s σ H D I h;refine wpAny_execs_cons (ci (h1 a s σ H D I h) λf s1 q=>?_);cases f with
 |next=>exact wpAny_execs_nil q
 |ret v=>exact q
 |brk=>exact q
 |cont=>exact q
theorem Inv.quiet{pins:LN}{σ:St}(I:Inv X pins σ H s):interactive X.env=false:=by simp[interactive,I.ok.kind]
def ye(te:TE):TS:=λD σ H=>te σ H λ_ H1=>D.nx σ H1
theorem bi(he:PE X e te)(hs:autoParam (swapsWith e none pos.line X.env=pure false) zz0._auto_1):PS X (.Expr e pos) (ye te):=by
 intro a s σ H D I h;exact wpAny_Expr_any (ci (he a s σ H _ I h) λv s1 ⟨x,H1,c,r1,b⟩=>⟨σ,H1,c,b⟩) I.quiet hs
def EW(te:TE):TS:=λD σ H=>te σ H D.rt
theorem aM(he:PE X e te):PS X (.Return (some e) pos) (EW te):=by
 intro a s σ H D I h;exact wpAny_Return_some (ci (he a s σ H _ I h) λv s1 ⟨x,H1,g,b,c⟩=>⟨x,σ,H1,g,b,c⟩)
def vT(c:TT)(t u:TS):TS:=λD σ H=>c σ H λb H1=>if b=true then t D σ H1 else u D σ H1
theorem bL{tc:TT}(hc:PT X c tc)(ha:wg X a t)(hb:wg X b u):PS X (.If c a b pos) (vT tc t u):=by
 intro e s σ H D I h;refine wpAny_If (ci (hc e s σ H _ I h) λd g ⟨H1,k,j⟩=>?_);cases d with
 |true=>exact ha e g σ H1 D k j
 |false=>exact hb e g σ H1 D k j
end
abbrev TG:=V->St->Hp->(St->Hp->Prop)->Prop
abbrev Ey:=List V->St->Hp->(St->Hp->Prop)->Prop
def PG(X:Cx)(target:Expr)(t:TG):Prop:=
 ∀(pins:LN) (s:LP) (σ:St) (H:Hp) (v:V) (u:Value) (Q:St->Hp->Prop),Inv X pins σ H s->bG v u->t v σ H Q ->
  wpAny d⁻¹ X.A (assign target X.env u) (λ_ s'=>SN X pins Q s') X.xe s
def F'(X:Cx)(ts:L3)(t:Ey):Prop:=
 ∀(pins:LN) (s:LP) (σ:St) (H:Hp) (vs:List V) (us:LQ) (Q:St->Hp->Prop),Inv X pins σ H s->bh vs us->t vs σ H Q ->
  wpAny d⁻¹ X.A (assignInOrder ((assignEach ts X.env).map (·.2)) us) (λ_ s'=>SN X pins Q s') X.xe s
abbrev FP:=V->V->V->Hp->(Hp->Prop)->Prop
def GH(X:Cx)(t:FP):Prop:=
 ∀(pins:LN) (s:LP) (σ:St) (H:Hp) (o i v:V) (ov iv u:Value) (Q:Hp->Prop),Inv X pins σ H s->bG o ov->bG i iv->bG v u->t o i v H Q ->
  wpAny d⁻¹ X.A (setItem ov iv u) (λ_ s'=>SH X pins σ Q s') X.xe s
section
variable {X:Cx}{pos:Pos}
def j_(i:Nat):TG:=λv σ H Q=>Q (σ.set i (some v)) H
theorem ay{i:Nat}{x:Str}(hN:X.N.Nodup)(hi:X.N[i]?=some x)(hx:Loc X.env.scope x)(hf:autoParam (X.fn x=true\/X.env.scope.names.lookup x=some .local) zz3._auto_1):PG X (.Name x pos) (j_ i):=by
 intro pins s σ H v u Q I r h;exact wpAny_assign_Name (vJ I hN hi hx r (λs' a=>⟨_,H,a,h⟩) hf)
theorem q02(i:Nat){x:Str}(hN:X.N.Nodup)(hi:autoParam (X.N[i]?=some x) zz0._auto_1)(hx:autoParam (Loc X.env.scope x) zzl._auto_1)(hf:autoParam (X.fn x=true\/X.env.scope.names.lookup x=some .local) zz3._auto_1):PG X (.Name x pos) (j_ i):=ay hN hi hx hf
def C6:Ey:=λvs σ H Q=>vs=[]/\Q σ H
def yv(t:TG)(u:Ey):Ey:=λvs σ H Q=>∃v r,vs=v::r/\t v σ H λσ' H'=>u r σ' H' Q
theorem du:F' X [] C6:=by
 intro pins s σ H vs us Q I r h;obtain⟨e,h⟩:=h;subst e;cases r;exact assignInOrder_nil ⟨σ,H,I,h⟩
theorem aV{e:Expr}{es:L3}{t:TG}(h1:PG X e t)(h2:F' X es u)
  (hs:autoParam ((assignEach (e::es) X.env).map (·.2)=assign e X.env::(assignEach es X.env).map (·.2)) zz0._auto_1):F' X (e::es) (yv t u):=by
 intro a s σ H vs us Q I r h;obtain⟨v,vr,g,h⟩:=h;subst g;cases r with
 |cons r rr=>
  rw[hs];refine assignInOrder_cons (ci (h1 a s σ H _ _ _ I r h) λ_ b ⟨σ1,H1,j,c⟩=>?_);exact h2 a b σ1 H1 _ _ Q j rr c
def AO(K:LM)(n:Nat)(t:Ey):TG:=λv σ H Q=>∃a xs,v=.ref a/\cR K H a xs/\xs.length=n/\t xs σ H Q
theorem ik{es:L3}{t:Ey}{n:Nat}(hc:X.calm=true)(h:F' X es t)
  (hn:autoParam ((assignEach es X.env).length=n) zz0._auto_1) (hst:autoParam ((assignEach es X.env).findIdx? (·.1)=none) zz0._auto_1):PG X (.Tuple es k pos) (AO X.K n t):=by
 intro c s σ H v u Q I r g;obtain⟨a,l,y,q,w,g⟩:=g;subst y;cases r;obtain⟨its,j,p,hz⟩:=I.tuple q;refine assign_Tuple_tuple (I.ok.hd hc) p (by simp[hn,<- w,j.length]) hst λx m=>?_;have z:Inv X c σ H {s with heap:=x }:=I.kept (t':=s.toks) λb o e=>m b o (K9 (Le e)) e;exact h c _ σ H l _ Q z (by simpa using j) g
def EI(to ti:TE)(t:FP):TG:=λv σ H Q=>to σ H λo H1=>ti σ H1 λi H2=>t o i v H2 λH3=>Q σ H3
theorem FJ{i:Expr}{to ti:TE}{t:FP}(ho:PE X o to)(hi:PE X i ti)(hs:GH X t)
  (ha:autoParam (∀v,assign (.Subscript o i pos) X.env v=(do
   let ov <- holding [v] (eval o X.env)
   let iv <- holding [v,ov] (eval i X.env)
   standAt pos
   holding [v,ov,iv] (setItem ov iv v)
   release [v,ov,iv] [])) zz4._auto_1):PG X (.Subscript o i pos) (EI to ti t):=by
 intro a s σ H v u Q I r h;rw[ha];refine q04 (q0Y (ci (ho a s σ H _ I h) λov c ⟨x,H1,p,g,l⟩=>?_));refine q04 (q0Y (ci (hi a c σ H1 _ p l) λiv b ⟨y,H2,n,e,k⟩=>?_));refine q04 (wpAny_standAt (q04 (q0Y (ci (hs a b σ H2 x y v ov iv u _ n g e r k) λ_ s3 ⟨q,m,j⟩=>?_))));exact wpAny_release ⟨σ,q,m,j⟩
def za(te:TE)(g:TG):TS:=λD σ H=>te σ H λx H1=>g x σ H1 D.nx
theorem tD{tg:Expr}{te:TE}(he:PE X e te)(hg:PG X tg g)(hs:autoParam (swapsWithSole [tg] e pos.line X.env=pure false) zz0._auto_1)(hw:autoParam (swappedStores [tg] e X.env=pure none) zz0._auto_1)
  (h1:autoParam ((assignEach [tg] X.env).map (·.2)=[assign tg X.env]) zz0._auto_1):PS X (.Assign [tg] e pos) (za te g):=by
 intro a s σ H D I h;refine wpAny_Assign_stores (ci (he a s σ H _ I h) λv b ⟨x,H1,k,c,j⟩=>?_) hs hw;rw[h1];exact ci (hg a b σ H1 x v _ k c j) λ_ s2 q=>q
theorem aA{i:Nat}{x:Str}{te:TE}{pos':Pos}(hN:X.N.Nodup)(hi:X.N[i]?=some x)(hx:Loc X.env.scope x)(he:PE X e te)(hs:autoParam (swapsWith e (some (.Name x pos')) pos.line X.env=pure false) zz0._auto_1)(hf:autoParam (X.fn x=true\/X.env.scope.names.lookup x=some .local) zz3._auto_1) :
  PS X (.Assign [.Name x pos'] e pos) (za te (j_ i)):=by
 intro a s σ H D I h;refine wpAny_Assign_Name (ci (he a s σ H _ I h) λv s1 ⟨y,H1,j,b,c⟩=>?_) hs;exact vJ j hN hi hx b (λs2 g=>⟨_,H1,g,c⟩) hf
theorem q01(i:Nat){x:Str}{e:Expr}{te:TE}{pos':Pos}(hN:X.N.Nodup)(he:PE X e te)(hi:autoParam (X.N[i]?=some x) zz0._auto_1)(hx:autoParam (Loc X.env.scope x) zzl._auto_1)(hs:autoParam (swapsWith e (some (.Name x pos')) pos.line X.env=pure false) zz0._auto_1)(hf:autoParam (X.fn x=true\/X.env.scope.names.lookup x=some .local) zz3._auto_1):
  PS X (.Assign [.Name x pos'] e pos) (za te (j_ i)):=aA hN hi hx he hs hf
def qc(c:TT)(tb:TS):TS:=λD σ H=>∃W:Nat->St->Hp->Prop,(∃m,W m σ H)/\∀m σ H,W m σ H ->
 c σ H λb H1=>if b=true then ∃N:St->Hp->Prop,(∀σ' H',N σ' H'->∃m',m'<m/\W m' σ' H')/\tb {D with nx:=N,ct:=N,bk:=D.nx} σ H1 else D.nx σ H1
theorem wd{body:List Stmt}{tc:TT}(hp:PassesOwn d⁻¹ X.A X.env X.xe)(hc:PT X c tc)(hb:wg X body tb):PS X (.While c body [] pos) (qc tc tb):=by
 intro a s σ H D I h;obtain⟨W,⟨m0,w⟩,turn⟩:=h;refine wpAny_While (codeAny_whileLoop (λn z=>∃σ' H',Inv X a σ' H' z/\W n σ' H') ?_ m0 ⟨σ,H,I,w⟩);rintro n y ⟨σ1,H1,B,u⟩;refine wpAny_passesOwn hp (ci (hc a y σ1 H1 _ B (turn n σ1 H1 u)) λb x ⟨H2,r,j⟩=>?_);cases b with
 |true=>
  obtain⟨N,q,j⟩:=j;rw[q07 rfl];refine wpAny_passesOwn hp (ci (hb a x σ1 H2 _ r j) λf s3 g=>?_);cases f with
  |next=>
   obtain⟨σ3,e,p,l⟩:=g;obtain⟨m,o,k⟩:=q σ3 e l;exact⟨m,o,σ3,e,p,k⟩
  |cont=>
   obtain⟨σ3,e,p,l⟩:=g;obtain⟨m,o,k⟩:=q σ3 e l;exact⟨m,o,σ3,e,p,k⟩
  |brk=>exact g
  |ret v=>exact g
 |false=>
  rw[q06 Ld];exact wpAny_execs_nil ⟨σ1,H2,r,j⟩
end
structure It where
 go:Nat->Hp->Prop
 yld:Nat->Hp->V->Hp->Prop
 stop:Nat->Hp->Prop
def nO(X:Cx)(pins:LN)(H:Hp)(b:Addr):Prop:=
 H b=none/\b≠X.env.locals/\b∉X.fs/\(b∈X.ex\/X.s₀.heap.objs.size<=b)/\(∀x c,X.env.cells.lookup x=some c->c≠b)/\∀p∈X.pn++pins,p.1≠b
theorem Inv.fpOk{pins:LN}{σ:St}{H':Hp}{b:Addr}(I:Inv X pins σ H s)(hb:s.heap.objs.size<=b)(hn:H' b=none):nO X pins H' b:=by
 refine⟨hn,Nat.ne_of_gt (K8 I.lt hb),I.nofs hb,.inr (Lj I.sz hb),λx c e z=>?_,λp a z=>?_⟩
 ·obtain⟨v,q⟩:=I.cell x c e
  exact q0Q (K8 q.lt (by rw[z];exact hb)) (Lk _)
 ·exact q0Q (K8 (Le (I.pin p a).1) (by rw[z];exact hb)) (Lk _)
structure vg(P:LV)(w:LY)(K:LM)(tg:Expr)(J:It)(fp:LR)(it:Addr)(tn:Nat->Heap->Prop):Prop where
 mem:it∈fp
 obj:∀i h,tn i h->∀b∈fp,∃o,h.get? b=some o/\∀v,o.data≠.cell v
 keep:∀i h h',tn i h->(∀b∈fp,∀o,h.get? b=some o->h'.get? b=some o)->tn i h'
 item:∀(X:Cx),X.prog=P->X.w=w->X.K=K->X.calm=true->∀(i:Nat) (pins:LN) (s:LP) (σ:St) (H:Hp) (E:LL),Inv X pins σ H s->(∀b∈fp,nO X pins H b)->tn i s.heap->J.go i H ->
  wpAny (model P w) X.A (pyNext (.ref it)) (λr s1=>∃u,r=some u /\
   wpAny (model P w) X.A (letOwnedTupleGo tg (.ref it) u) (λ_ s2=>∃x H',Inv X pins σ H' s2/\bG x u/\J.yld i H x H'/\tn (i+1) s2.heap/\∀b∈fp,H' b=none) E s1) E s
 done:∀(X:Cx),X.prog=P->X.w=w->X.K=K->X.calm=true->∀(i:Nat) (pins:LN) (s:LP) (σ:St) (H:Hp) (E:LL),Inv X pins σ H s->(∀b∈fp,nO X pins H b)->tn i s.heap->J.stop i H ->
  wpAny (model P w) X.A (pyNext (.ref it)) (λr s1=>r=none/\Inv X pins σ H s1) E s
 self:∀(A:LX) (i:Nat) (s:LP) (Q:LL) (E:LL),tn i s.heap->Q (.ref it) s->wpAny (model P w) A (pyIter (.ref it)) Q E s
abbrev TI:=St->Hp->(It->Hp->Prop)->Prop
def Ij(X:Cx)(pins:LN)(σ:St)(tg:Expr)(R:It->Hp->Prop)(itv:Value)(s2:LP):Prop:=
 ∃(it:Addr) (fp:LR) (tn:Nat->Heap->Prop) (J:It) (H':Hp),itv=.ref it/\Inv X pins σ H' s2/\vg X.prog X.w X.K tg J fp it tn/\tn 0 s2.heap/\(∀b∈fp,nO X pins H' b)/\R J H'
def PI(X:Cx)(tg iter:Expr)(wi:TI):Prop:=
 ∀(pins:LN) (s:LP) (σ:St) (H:Hp) (R:It->Hp->Prop),Inv X pins σ H s->wi σ H R ->
  wpAny d⁻¹ X.A (eval iter X.env) (λv s1=>wpAny d⁻¹ X.A (pyIter v) (Ij X pins σ tg R) X.xe s1) X.xe s
theorem yd{s:LP}{tg:Expr}{it:Addr}{u:Value}{o:Obj}{Q:Unit->Shared->Prop}(ho:s.heap.get? it=some o)(hc:o.cls=.type n)(hd:o.data=.fields vs)
  (hn:["enumerate","zip","dict_itemiterator","dict_reverseitemiterator","odict_iterator","itertools.zip_longest","itertools.pairwise"].contains n=false) (hQ:Q () s):wpAny M A (letOwnedTupleGo tg (.ref it) u) Q E s:=by
 unfold letOwnedTupleGo;cases tg<;>first
  |exact q05 hQ
  | (cases u<;>first
    |exact q05 hQ
    | (refine q04 (wpAny_load ho ?_)
       rw[hc,hd];show wpAny M A (if(["enumerate","zip","dict_itemiterator","dict_reverseitemiterator","odict_iterator","itertools.zip_longest","itertools.pairwise"].contains n&&vs[0]?==some (rawInt _))=true then _ else _) Q E s;rw[q06 (by intro h;rw[hn,Bool.false_and]at h;cases h)];exact q05 hQ))
def AJ(K:LM)(a:Addr):It:=
 ⟨λi H=>∃xs x,aQ K H a xs/\xs[i]?=some x,λi H x H'=>H'=H/\∀xs,aQ K H a xs->xs[i]?=some x,λi H=>∃xs,aQ K H a xs/\xs.length<=i⟩
def zq(lo:Int)(n:Nat):It:=⟨λi _=>i<n,λi H x H'=>H'=H/\x=.int (lo+i),λi _=>n<=i⟩
theorem zZ{K:LM}{tg:Expr}(a it:Addr):vg P w K tg (AJ K a) [it] it (λi h=>h.IsListIter it a i) where
 mem:=by simp
 obj:=λi h g b l=>by
  have e:b=it:=by simpa using l
  subst e;obtain⟨o,e,c,d⟩:=g;exact⟨o,e,λv z=>by rw[d]at z;cases z⟩
 keep:=λi h q g k=>g.at λo e=>k it (by simp) o e
 item:=by
  intro X D C G S i j s σ H E I hf g hg;subst D C G;obtain⟨T,x,n,B⟩:=hg;obtain⟨y,r,p,Z⟩:=I.list n;obtain⟨u,hu,Y⟩:=r.get B;obtain⟨R,O,f2,M,L,J⟩:=hf it (by simp);refine wpAny_pyNext_list_item g p.isList (x:=u) (by simpa using hu) λq m U=>?_;have I1:Inv X j σ H {s with heap:=q }:=I.turned (t':=s.toks) (λb o l e=>(U.2 b l).trans e) R O M L J;obtain⟨o,e,c,d⟩:=id m;exact⟨u,rfl,yd (s:={s with heap:=q }) e c d b⁻¹ ⟨x,H,I1,Y,⟨rfl,λys hy=>by rw[I.list_inj hy n];exact B⟩,m,λb l=>(hf b l).1⟩⟩
 done:=by
  intro X D C G S i j s σ H E I hf g hg;subst D C G;obtain⟨T,n,B⟩:=hg;obtain⟨y,r,p,Z⟩:=I.list n;obtain⟨R,O,f2,M,L,J⟩:=hf it (by simp);have hl:=r.length;exact wpAny_pyNext_list_end (I.ok.hd S) g p.isList (by simp;omega) λq eb=>⟨rfl,I.turned (t':=s.toks) (λb o l e=>eb b o l e) R O M L J⟩
 self:=λ_ _ _ _ _ g h=>wpAny_pyIter_listiter g h
theorem xz{K:LM}{tg:Expr}(it:Addr)(lo:Int)(n:Nat):vg P w K tg (zq lo n) [it] it (λi h=>IsRangeIter h it (lo+(i:Nat)*1) ((n:Int)-(i:Nat)) 1) where
 mem:=by simp
 obj:=λi h a b g=>by
  have e:b=it:=by simpa using g
  subst e;exact⟨_,a,λv z=>by
   have G:Data.fields _=Data.cell v:=z;cases G⟩
 keep:=λi h l a k=>k it (by simp) _ a
 item:=by
  intro X q m r p i c s σ H E I hf a hg;subst q m r;obtain⟨C,B,f2,y,x,u⟩:=hf it (by simp);have W:=Walks.range (prog:=X.prog) (w:=X.w) (I.ok.hd p) it lo 1 n;refine W.item i s _ _ hg a λv l D L j J=>?_;obtain⟨t,rfl⟩:=L;have O:Inv X c σ H {s with heap:=l,toks:=D}:=I.turned (λb o g e=>J b o (by simpa using g) e) C B y x u;refine⟨_,rfl,yd (s:={s with heap:=l,toks:=D}) (n:="range_iterator") j rfl rfl b⁻¹ ⟨.int (lo+i),H,O,⟨t,?_⟩,⟨rfl,rfl⟩,j,λb g=>(hf b g).1⟩⟩;rw[Int.mul_one]
 done:=by
  intro X q m r p i c s σ H E I hf a hg;subst q m r;obtain⟨C,B,f2,y,x,u⟩:=hf it (by simp);exact wpAny_pyNext_range_end (I.ok.hd p) a (by have:n<=i:=hg;omega) λl M=>⟨rfl,I.turned (t':=s.toks) (λb o g e=>M b o g e) C B y x u⟩
 self:=λ_ _ _ _ _ a h=>wpAny_pyIter_rangeiter a h
section
variable {X:Cx}{tg:Expr}
def Ba(K:LM)(tl:TE):TI:=λσ H R=>tl σ H λx H1=>∃a,x=.ref a/\(∃xs,aQ K H1 a xs)/\R (AJ K a) H1
theorem bR{tl:TE}(hl:PE X l tl):PI X tg l (Ba X.K tl):=by
 intro c s σ H R I h;refine ci (hl c s σ H _ I h) λv g ⟨x,H1,j,k,m⟩=>?_;obtain⟨a,e,⟨xs,n⟩,q⟩:=m;subst e;cases k;obtain⟨its,rv,p,hz⟩:=j.list n;refine wpAny_pyIter_list p.isList ?_;refine⟨g.heap.objs.size,[g.heap.objs.size],_,_,H1,rfl,j.kept (t':=g.toks) λb o e=>KN _ e,zZ a _,⟨_,KU _ rfl,rfl,rfl⟩,λb r=>?_,q⟩;have e:b=g.heap.objs.size:=by simpa using r
 subst e;exact j.fpOk (Lb _) (j.hok.fresh (Lb _))
theorem vN{pins:LN}{σ:St}{s:LP}{R:It->Hp->Prop}{E:LL}{lo hi:Int}{t u v:Tok}{tk:Nat}(I:Inv X pins σ H s)(h1:-(2 ^ 62)<=lo)(h2:lo<2 ^ 62)(h3:-(2 ^ 62)<=hi)(h4:hi<2 ^ 62)
  (q:R (zq lo (hi-lo).toNat) H):wpAny d⁻¹ X.A (pyIter (.ref s.heap.objs.size)) (Ij X pins σ tg R) E {s with heap:=s.heap.push {cls:=.type "range",data:=.fields #[.int lo t,.int hi u,.int 1 v]},toks:=tk}:=by
 refine wpAny_pyIter_range (IsRange.new ..) (small_one h1 h2 h3 h4) ?_;have a:Inv X pins σ H {s with heap:=s.heap.push {cls:=.type "range",data:=.fields #[.int lo t,.int hi u,.int 1 v]},toks:=tk}:=I.kept λb o e=>KN _ e;refine⟨(s.heap.push {cls:=.type "range",data:=.fields #[.int lo t,.int hi u,.int 1 v]}).objs.size,[(s.heap.push {cls:=.type "range",data:=.fields #[.int lo t,.int hi u,.int 1 v]}).objs.size],_,_,H,rfl,
  a.kept (t':=tk) λb o e=>KN _ e,xz _ lo (hi-lo).toNat,?_,λb c=>?_,q⟩
 ·have j:lo+((0:Nat):Int)*1=lo:=by simp
  have g:(((hi-lo).toNat:Nat):Int)-((0:Nat):Int)=Builtin.Range.rangeSize lo hi 1:=by rw[rangeSize_one];split<;>omega
  show IsRangeIter _ _ (lo+((0:Nat):Int)*1) ((((hi-lo).toNat:Nat):Int)-((0:Nat):Int)) 1;rw[j,g];exact KU _ rfl
 ·have e:b=(s.heap.push {cls:=.type "range",data:=.fields #[.int lo t,.int hi u,.int 1 v]}).objs.size:=by simpa using c
  subst e;exact a.fpOk (Lb _) (a.hok.fresh (Lb _))
def BY(ta:TA):TI:=λσ H R=>ta σ H λvs H1=>∃j:Int,vs=[.int j]/\-(2 ^ 62)<=j/\j<2 ^ 62/\R (zq 0 j.toNat) H1
def AG(ta:TA):TI:=λσ H R=>ta σ H λvs H1=>∃i j:Int,vs=[.int i,.int j]/\(-(2 ^ 62)<=i/\i<2 ^ 62/\-(2 ^ 62)<=j/\j<2 ^ 62)/\R (zq i (j-i).toNat) H1
theorem cD{a:Expr}{ta:TA}{p pos:Pos}(hg:Gl X "range")(hm:X.mg "range"=none)(ha:PA X [a] ta)(hs:autoParam (starEach [a] X.env=[(false,eval a X.env)]) zz0._auto_1):PI X tg (.Call (.Name "range" p) [a] [] pos) (BY ta):=by
 intro b s σ H R I h;refine Call_ (fc I hg hm boot_range (PyProof.Rows.callWith_type1 (ci (ha pos b s σ H _ I h) λus s1 ⟨vs,H1,l,g,c⟩=>?_) hs rfl));obtain⟨j,e,c,k,q⟩:=c;subst e;cases g with
 |cons r rr=>
  cases rr;obtain⟨t,rfl⟩:=r;exact call_range_1 (vN l ⋯ ⋯ c k (by simpa using q))
theorem lX{a b:Expr}{ta:TA}{p pos:Pos}(hg:Gl X "range")(hm:X.mg "range"=none)(ha:PA X [a,b] ta)(hs:autoParam (starEach [a,b] X.env=[(false,eval a X.env),(false,eval b X.env)]) zz0._auto_1)(hs2:autoParam (starEach [b] X.env=[(false,eval b X.env)]) zz0._auto_1) :
  PI X tg (.Call (.Name "range" p) [a,b] [] pos) (AG ta):=by
 intro c s σ H R I h;refine Call_ (fc I hg hm boot_range (PyProof.Rows.callWith_type1 (ci (ha pos c s σ H _ I h) λus s1 ⟨vs,H1,o,k,g⟩=>?_) (by rw[hs,hs2]) (by rw[hs2];rfl)));obtain⟨i,j,e,⟨g,n,m,l⟩,q⟩:=g;subst e;cases k with
 |cons r rr=>
  cases rr with
  |cons r' rr=>
   cases rr;obtain⟨t,rfl⟩:=r;obtain⟨t',rfl⟩:=r';exact call_range_2 (vN o g n m l q)
def HU(wi:TI)(g:TG)(tb:TS):TS:=λD σ H=>wi σ H λJ H1=>∃W:Nat->Nat->St->Hp->Prop,(∃m,W 0 m σ H1)/\∀i m σ H,W i m σ H ->
 (J.stop i H/\D.nx σ H)\/(J.go i H/\∃N:St->Hp->Prop,(∀σ' H',N σ' H'->∃m',m'<m/\W (i+1) m' σ' H')/\∀x H',J.yld i H x H'->g x σ H' λσ2 H2=>tb {D with nx:=N,ct:=N,bk:=D.nx} σ2 H2)
def oO(fp:LR)(h:Heap):List (Addr×Obj):=fp.filterMap λb=>(h.get? b).map λo=>(b,o)
theorem ic{fp:LR}{h:Heap}{b:Addr}{o:Obj}(hb:b∈fp)(e:h.get? b=some o):(b,o)∈oO fp h:=List.mem_filterMap.mpr ⟨b,hb,by rw[e];rfl⟩
theorem zg{fp:LR}{p:Addr×Obj}(hp:p∈oO fp h):p.1∈fp/\h.get? p.1=some p.2:=by
 obtain⟨b,a,e⟩:=List.mem_filterMap.mp hp;cases q:h.get? b with
 |none=>rw[q]at e;cases e
 |some o=>
  rw[q]at e;have c:(b,o)=p:=q0S e;subst c;exact⟨a,q⟩
theorem Inv.pinned{pins:LN}{σ:St}{fp:LR}(I:Inv X pins σ H s)(hf:∀b∈fp,nO X pins H b)(ho:∀b∈fp,∃o,s.heap.get? b=some o/\∀v,o.data≠.cell v):Inv X (pins++oO fp s.heap) σ H s:=
 I.pins_of λp hp=>(K3.mp hp).elim (λz=>I.pin p (q0C _ z)) λz=>by
  obtain⟨hb,e⟩:=zg z;obtain⟨f0,f1,f2,_⟩:=hf p.1 hb;obtain⟨o,e',d⟩:=ho p.1 hb;rw[e]at e';cases e'
  exact⟨e,f0,f1,f2,d⟩
theorem Inv.unpinned{pins pl:LN}{σ:St}(I:Inv X (pins++pl) σ H s):Inv X pins σ H s:=I.pins_of λp hp=>I.pin p (q0C _ (q0D _ hp))
theorem E2{iter:Expr}{body:List Stmt}{wi:TI}{pos:Pos}(hp:PassesOwn d⁻¹ X.A X.env X.xe)(hc:X.calm=true)(hi:PI X tg iter wi)(hg:PG X tg g)(hb:wg X body tb)
  (hs:autoParam (∀x,foldedSetIterable iter X.env x=pure x) zz4._auto_1):PS X (.For tg iter body [] pos) (HU wi g tb):=by
 intro a s σ H D I h;refine wpAny_For (ci (hi a s σ H _ I h) λv s1 h1=>ci h1 λitv s2 h2=>?_) hs;obtain⟨it,C,S,J,H2,e,I2,T,L,f2,W,⟨m0,w0⟩,turn⟩:=h2;subst e
 -- what stays true of the iterator's objects through the loop
 have c:∀{H':Hp},(∀b∈C,H' b=none)->∀b∈C,nO X a H' b:=λhn b hb=>⟨hn b hb,(f2 b hb).2⟩;refine codeAny_forLoop_any (λn Z=>∃i σ' H',Inv X a σ' H' Z/\S i Z.heap/\(∀b∈C,H' b=none)/\W i n σ' H') ?_ m0 ⟨0,σ,H2,I2,L,λb hb=>(f2 b hb).1,w0⟩;rintro n Y ⟨i,σ3,G,I3,y,B,w3⟩;rcases turn i n σ3 G w3 with⟨w,qn⟩ | ⟨go,N,hN,step⟩
 ·refine wpAny_passesOwn hp (ci (T.done X rfl rfl rfl hc i a Y σ3 G X.xe I3 (c B) y w) λr s4 ⟨hr,I4⟩=>?_)
  subst hr;exact wpAny_execs_nil ⟨σ3,G,I4,qn⟩
 ·refine wpAny_passesOwn hp (ci (T.item X rfl rfl rfl hc i a Y σ3 G X.xe I3 (c B) y go) λr s4 ⟨u,hr,h4⟩=>?_)
  subst hr;refine wpAny_passesOwn hp (ci h4 λ_ U ⟨x,H5,I5,r5,y5,q,O⟩=>?_);have R:=I5.pinned (c O) (T.obj _ _ q);refine wpAny_passesOwn hp (ci (hg _ U σ3 H5 x u _ R r5 (step x H5 y5)) λ_ s6 ⟨σ6,H6,I6,q6⟩=>?_);refine wpAny_passesOwn hp (ci (hb _ s6 σ6 H6 _ I6 q6) λf M p=>?_);have j:∀{σ7:St} {l:Hp},Inv X (a++oO C U.heap) σ7 l M->N σ7 l->∃m,m<n/\∃i σ' H',Inv X a σ' H' M/\S i M.heap/\(∀b∈C,H' b=none)/\W i m σ' H':=fun{σ7 l} k z=>by
   obtain⟨m',hm,w7⟩:=hN σ7 l z;refine⟨m',hm,i+1,σ7,l,k.unpinned,T.keep _ _ _ q λb hb o e=>(k.pin (b,o) (q0C _ (q0C _ (ic hb e)))).1,λb hb=>?_,w7⟩;obtain⟨o,e,d⟩:=T.obj _ _ q b hb;exact(k.pin (b,o) (q0C _ (q0C _ (ic hb e)))).2.1
  cases f with
  |next=>obtain⟨σ7,l,k,z⟩:=p;exact j k z
  |cont=>obtain⟨σ7,l,k,z⟩:=p;exact j k z
  |brk=>obtain⟨σ7,l,k,p⟩:=p;exact⟨σ7,l,k.unpinned,p⟩
  |ret v=>obtain⟨x7,σ7,l,k,r7,p⟩:=p;exact⟨x7,σ7,l,k.unpinned,r7,p⟩
end
theorem AC{K:LM}{xs:List V}{g:TG}{tb:TS}{D:gO}{σ:St}{H:Hp}(Pv:Nat->St->Hp->Prop)(h0:Pv 0 σ H)(hl:∀i σ H,i<=xs.length->Pv i σ H->aQ K H a xs)
  (hs:∀i x σ H,xs[i]?=some x->Pv i σ H->g x σ H λσ2 H2=>tb {D with nx:=Pv (i+1),ct:=Pv (i+1),bk:=D.nx} σ2 H2) (hd:∀σ H,Pv xs.length σ H->D.nx σ H) :
  ∃W:Nat->Nat->St->Hp->Prop,(∃m,W 0 m σ H)/\∀i m σ H,W i m σ H ->
   ((AJ K a).stop i H/\D.nx σ H)\/((AJ K a).go i H/\∃N:St->Hp->Prop,(∀σ' H',N σ' H'->∃m',m'<m/\W (i+1) m' σ' H')/\∀x H',(AJ K a).yld i H x H'->g x σ H' λσ2 H2=>tb {D with nx:=N,ct:=N,bk:=D.nx} σ2 H2):=by
 refine⟨λi m σ H=>m=xs.length-i/\i<=xs.length/\Pv i σ H,⟨xs.length,by simp,Lc _,h0⟩,?_⟩;rintro i m σ H ⟨rfl,c,p⟩;have q:=hl i σ H c p
 by_cases b:i<xs.length
 ·refine .inr ⟨⟨xs,xs[i],q,by simp[b]⟩,Pv (i+1),λσ' H' p'=>⟨xs.length-(i+1),⋯,rfl,b,p'⟩,λx H' y=>?_⟩
  obtain⟨e,y⟩:=y;subst e;exact hs i x σ _ (y xs q) p
 ·have e:i=xs.length:=by omega
  subst e;exact .inl ⟨⟨xs,q,Lb _⟩,hd σ H p⟩
theorem zS{lo:Int}{n:Nat}{g:TG}{tb:TS}{D:gO}{σ:St}{H:Hp}(Pv:Nat->St->Hp->Prop)(h0:Pv 0 σ H)
  (hs:∀i σ H,i<n->Pv i σ H->g (.int (lo+i)) σ H λσ2 H2=>tb {D with nx:=Pv (i+1),ct:=Pv (i+1),bk:=D.nx} σ2 H2) (hd:∀σ H,Pv n σ H->D.nx σ H) :
  ∃W:Nat->Nat->St->Hp->Prop,(∃m,W 0 m σ H)/\∀i m σ H,W i m σ H ->
   ((zq lo n).stop i H/\D.nx σ H)\/((zq lo n).go i H/\∃N:St->Hp->Prop,(∀σ' H',N σ' H'->∃m',m'<m/\W (i+1) m' σ' H')/\∀x H',(zq lo n).yld i H x H'->g x σ H' λσ2 H2=>tb {D with nx:=N,ct:=N,bk:=D.nx} σ2 H2):=by
 refine⟨λi m σ H=>m=n-i/\i<=n/\Pv i σ H,⟨n,by simp,Lc _,h0⟩,?_⟩;rintro i m σ H ⟨rfl,hi,p⟩
 by_cases a:i<n
 ·refine .inr ⟨a,Pv (i+1),λσ' H' p'=>⟨n-(i+1),⋯,rfl,a,p'⟩,λx H' y=>?_⟩
  obtain⟨e,y⟩:=y;subst e y;exact hs i σ _ a p
 ·have e:i=n:=by omega
  subst e;exact .inl ⟨Lb _,hd σ H p⟩
abbrev R2:=V->V->Hp->VK->Prop
def bC(X:Cx)(f:Value->Value->Sem Value)(r:R2):Prop:=
 ∀(pins:LN) (s:LP) (σ:St) (H:Hp) (x y:V) (v u:Value) (Q:VK),Inv X pins σ H s->bG x v->bG y u->r x y H Q ->
  wpAny d⁻¹ X.A (f v u) (EP X pins σ Q) X.xe s
def g7(X:Cx)(f:Value)(r:List V->Hp->VK->Prop):Prop:=
 ∀(pins:LN) (s:LP) (σ:St) (H:Hp) (xs:List V) (us:LQ) (Q:VK),Inv X pins σ H s->bh xs us->r xs H Q ->
  wpAny d⁻¹ X.A (call f us) (EP X pins σ Q) X.xe s
def ET(r:R2)(ta tb:TE):TE:=λσ H Q=>ta σ H λx H1=>tb σ H1 λy H2=>r x y H2 Q
def rI(C:Int->Int->Prop)(g:Int->Int->V):R2:=λx y H Q=>∃i j,x=.int i/\y=.int j/\C i j/\Q (g i j) H
def zd(g:Int->Int->V):R2:=λx y H Q=>∃i j,x=.int i/\y=.int j/\Q (g i j) H
section
variable {X:Cx}{a b c:Expr}{ta tb tc:TE}{pos:Pos}
theorem Fl(ha:PE X a ta)(hb:PE X b tb){pins:LN}{s:LP}{σ:St}{H:Hp}{R:V->V->Hp->Prop}(I:Inv X pins σ H s)
  (h:ta σ H λx H1=>tb σ H1 λy H2=>R x y H2) {Q:LL} {f:Value->Value->Sem Value}
  (hf:∀v u s2 x y H2,Inv X pins σ H2 s2->bG x v->bG y u->R x y H2->wpAny d⁻¹ X.A (f v u) Q X.xe s2) :
  wpAny d⁻¹ X.A (eval a X.env) (λv s₁=>wpAny d⁻¹ X.A (eval b X.env) (λu s₂=>wpAny d⁻¹ X.A (f v u) Q X.xe s₂) X.xe s₁) X.xe s:=by
 refine ci (ha pins s σ H _ I h) λv c ⟨x,H1,m,g,k⟩=>?_;refine ci (hb pins c σ H1 _ m k) λu s2 ⟨y,H2,l,e,j⟩=>?_;exact hf v u s2 x y H2 l g e j
theorem aw{op:Operator}{r:R2}(ho:bC X (binaryOp op) r)(ha:PE X a ta)(hb:PE X b tb):PE X (.BinOp a op b pos) (ET r ta tb):=by
 intro c s σ H Q I h;exact wpAny_BinOp (Fl ha hb I h λv u e x y H2 k j g q=>ho c e σ H2 x y v u Q k j g q)
theorem Hx{f:Value->Value->Sem Value}{C:Int->Int->Prop}{g:Int->Int->Int}
  (rule:∀(i j:Int) (t u:Tok) (s:LP) (Q:LL) (E:LL),C i j->Q (.int (g i j) s.toks) {s with toks:=s.toks+1}->wpAny d⁻¹ X.A (f (.int i t) (.int j u)) Q E s) :
  bC X f (rI C λi j=>.int (g i j)):=by
 intro pins s σ H x y v u Q I rx ry h;obtain⟨i,j,rfl,rfl,b,q⟩:=h;obtain⟨t,rfl⟩:=rx;obtain⟨a,rfl⟩:=ry;exact rule i j t a s _ _ b ⟨.int (g i j),H,I.tok _,⟨_,rfl⟩,q⟩
theorem GT{f:Value->Value->Sem Value}{g:Int->Int->Int}
  (rule:∀(i j:Int) (t u:Tok) (s:LP) (Q:LL) (E:LL),Q (.int (g i j) s.toks) {s with toks:=s.toks+1}->wpAny d⁻¹ X.A (f (.int i t) (.int j u)) Q E s) :
  bC X f (zd λi j=>.int (g i j)):=by
 intro pins s σ H x y v u Q I rx ry h;obtain⟨i,j,rfl,rfl,q⟩:=h;obtain⟨t,rfl⟩:=rx;obtain⟨a,rfl⟩:=ry;exact rule i j t a s _ _ ⟨.int (g i j),H,I.tok _,⟨_,rfl⟩,q⟩
theorem CZ{f:Value->Value->Sem Value}{g:Int->Int->Bool}
  (rule:∀(i j:Int) (t u:Tok) (s:LP) (Q:LL) (E:LL),Q (.bool (g i j)) s->wpAny d⁻¹ X.A (f (.int i t) (.int j u)) Q E s) :
  bC X f (zd λi j=>.bl (g i j)):=by
 intro pins s σ H x y v u Q I rx ry h;obtain⟨i,j,rfl,rfl,q⟩:=h;obtain⟨t,rfl⟩:=rx;obtain⟨a,rfl⟩:=ry;exact rule i j t a s _ _ ⟨.bl (g i j),H,I,rfl,q⟩
def B8(i j:Int):Prop:=(-(2 ^ 64)<i/\i<2 ^ 64)\/(-(2 ^ 64)<j/\j<2 ^ 64)
theorem B8.ok{i:Int}(h:B8 i j):IntMulOk i j:=by
 rcases h with⟨h1,h2⟩ | ⟨h1,h2⟩
 ·exact .of_left (intBits_le_64 h1 h2)
 ·exact .of_right (intBits_le_64 h1 h2)
theorem bU:bC X (binaryOp .Add) (zd λi j=>.int (i+j)):=GT λ_ _ _ _ _ _ _ q=>add_int q
theorem kL:bC X (binaryOp .Sub) (zd λi j=>.int (i-j)):=GT λ_ _ _ _ _ _ _ q=>sub_int q
theorem d8:bC X (binaryOp .Mult) (rI B8 λi j=>.int (i*j)):=Hx λ_ _ _ _ _ _ _ hc q=>mul_int q hc.ok
theorem bf:bC X (binaryOp .Mod) (rI (λ_ j=>0<j) λi j=>.int (i%j)):=Hx λi j _ _ _ _ _ hc q=>by
 have h1:(0:Int)<j:=hc;exact mod_int' ⋯ (by rw[Int.fmod_eq_emod_of_nonneg i ⋯];exact q)
end
def ur:V->V->Bool
 | .non,.non=>true | .non,.int _=>true | .int _,.non=>true | .non,.bl _=>true | .bl _,.non=>true | .non,.str _=>true | .str _,.non=>true
 | .int _,.int _=>true | .bl _,.bl _=>true | .str _,.str _=>true | .byt _,.byt _=>true
 | .int _,.str _=>true | .str _,.int _=>true | .bl _,.str _=>true | .str _,.bl _=>true
 |_,_=>false
def Hn:R2:=λx y H Q=>ur x y=true/\Q (.bl (decide (x=y))) H
def HN:R2:=λx y H Q=>ur x y=true/\Q (.bl (!decide (x=y))) H
theorem xV{i j:Int}:decide (V.int i=V.int j)=(i==j):=by
 rw[Bool.eq_iff_iff];simp
theorem AB{i:Bool}:decide (V.bl i=V.bl j)=(i==j):=by
 rw[Bool.eq_iff_iff];simp
theorem yn{i:Str}:decide (V.str i=V.str j)=(i==j):=by
 rw[Bool.eq_iff_iff];simp
theorem yr{i:Array UInt8}:decide (V.byt i=V.byt j)=(i.toList==j.toList):=by
 rw[Bool.eq_iff_iff];cases i;cases j;simp
section
variable {X:Cx}{a b c:Expr}{ta tb tc:TE}{pos:Pos}
theorem bS{pins:LN}{σ:St}{Q:VK}{k':Bool}(I:Inv X pins σ H s)(q:Q (.bl k) H)(e:k=k'):EP X pins σ Q (.bool k') s:=by
 subst e;exact⟨.bl k,H,I,rfl,q⟩
theorem dz:bC X (compareOp .Eq) Hn:=by
 intro pins s σ H x y v u Q I rx ry h;obtain⟨b,q⟩:=h;cases x with
 |non=>
  cases rx;cases y with
  |non=>cases ry;exact PySem.EqNone.eq_none_none (bS I q (by simp))
  |bl j=>cases ry;exact PySem.EqNone.eq_none_bool (bS I q (by simp))
  |int j=>obtain⟨a,rfl⟩:=ry;exact PySem.EqNone.eq_none_int (bS I q (by simp))
  |str j=>obtain⟨a,rfl⟩:=ry;exact PySem.EqNone.eq_none_str (bS I q (by simp))
  |_=>exact q0Q (show false=true from b) Ld
 |bl i=>
  cases rx;cases y with
  |non=>cases ry;exact PySem.EqNone.eq_bool_none (bS I q (by simp))
  |bl j=>cases ry;exact eq_bool (bS I q AB)
  |str j=>obtain⟨a,rfl⟩:=ry;exact PySem.EqMixed.eq_bool_str (bS I q (by simp))
  |_=>exact q0Q (show false=true from b) Ld
 |int i=>
  obtain⟨t,rfl⟩:=rx;cases y with
  |non=>cases ry;exact PySem.EqNone.eq_int_none (bS I q (by simp))
  |int j=>obtain⟨a,rfl⟩:=ry;exact eq_int (bS I q xV)
  |str j=>obtain⟨a,rfl⟩:=ry;exact PySem.EqMixed.eq_int_str (bS I q (by simp))
  |_=>exact q0Q (show false=true from b) Ld
 |str i=>
  obtain⟨t,rfl⟩:=rx;cases y with
  |non=>cases ry;exact PySem.EqNone.eq_str_none (bS I q (by simp))
  |bl j=>cases ry;exact PySem.EqMixed.eq_str_bool (bS I q (by simp))
  |int j=>obtain⟨a,rfl⟩:=ry;exact PySem.EqMixed.eq_str_int (bS I q (by simp))
  |str j=>obtain⟨a,rfl⟩:=ry;exact eq_str (bS I q yn)
  |_=>exact q0Q (show false=true from b) Ld
 |byt i=>
  obtain⟨t,rfl⟩:=rx;cases y with
  |byt j=>obtain⟨a,rfl⟩:=ry;exact PySem.W.eq_bytes (bS I q yr)
  |_=>exact q0Q (show false=true from b) Ld
 |_=>cases y<;>exact q0Q (show false=true from b) Ld
theorem yj:bC X (compareOp .NotEq) HN:=by
 intro pins s σ H x y v u Q I rx ry h;obtain⟨b,q⟩:=h;cases x with
 |non=>
  cases rx;cases y with
  |non=>cases ry;exact PySem.EqNone.ne_none_none (bS I q (by simp))
  |bl j=>cases ry;exact PySem.EqNone.ne_none_bool (bS I q (by simp))
  |int j=>obtain⟨a,rfl⟩:=ry;exact PySem.EqNone.ne_none_int (bS I q (by simp))
  |str j=>obtain⟨a,rfl⟩:=ry;exact PySem.EqNone.ne_none_str (bS I q (by simp))
  |_=>exact q0Q (show false=true from b) Ld
 |bl i=>
  cases rx;cases y with
  |non=>cases ry;exact PySem.EqNone.ne_bool_none (bS I q (by simp))
  |bl j=>cases ry;exact ne_bool (bS I q (q0R not AB))
  |str j=>obtain⟨a,rfl⟩:=ry;exact PySem.EqMixed.ne_bool_str (bS I q (by simp))
  |_=>exact q0Q (show false=true from b) Ld
 |int i=>
  obtain⟨t,rfl⟩:=rx;cases y with
  |non=>cases ry;exact PySem.EqNone.ne_int_none (bS I q (by simp))
  |int j=>obtain⟨a,rfl⟩:=ry;exact ne_int (bS I q (q0R not xV))
  |str j=>obtain⟨a,rfl⟩:=ry;exact PySem.EqMixed.ne_int_str (bS I q (by simp))
  |_=>exact q0Q (show false=true from b) Ld
 |str i=>
  obtain⟨t,rfl⟩:=rx;cases y with
  |non=>cases ry;exact PySem.EqNone.ne_str_none (bS I q (by simp))
  |bl j=>cases ry;exact PySem.EqMixed.ne_str_bool (bS I q (by simp))
  |int j=>obtain⟨a,rfl⟩:=ry;exact PySem.EqMixed.ne_str_int (bS I q (by simp))
  |str j=>obtain⟨a,rfl⟩:=ry;exact ne_str (bS I q (q0R not yn))
  |_=>exact q0Q (show false=true from b) Ld
 |byt i=>
  obtain⟨t,rfl⟩:=rx;cases y with
  |byt j=>obtain⟨a,rfl⟩:=ry;exact PySem.W.ne_bytes (bS I q (q0R not yr))
  |_=>exact q0Q (show false=true from b) Ld
 |_=>cases y<;>exact q0Q (show false=true from b) Ld
theorem ot:bC X (compareOp .Lt) (zd λi j=>.bl (decide (i<j))):=CZ λ_ _ _ _ _ _ _ q=>lt_int q
theorem pZ:bC X (compareOp .LtE) (zd λi j=>.bl (decide (i<=j))):=CZ λ_ _ _ _ _ _ _ q=>le_int q
theorem lK:bC X (compareOp .Gt) (zd λi j=>.bl (decide (j<i))):=CZ λ_ _ _ _ _ _ _ q=>gt_int q
theorem EA:bC X (compareOp .GtE) (zd λi j=>.bl (decide (j<=i))):=CZ λ_ _ _ _ _ _ _ q=>ge_int q
theorem zM:bC X (compareOp .In) (λx y H Q=>∃i j,x=.str i/\y=.str j/\Q (.bl (!(Builtin.Str.occurrences j i 0 j.length 1).isEmpty)) H):=by
 intro pins s σ H x y v u Q I rx ry h;obtain⟨i,j,rfl,rfl,q⟩:=h;obtain⟨t,rfl⟩:=rx;obtain⟨t',rfl⟩:=ry;exact in_str (bS I q rfl)
theorem jx:bC X (compareOp .Is) (λx y H Q=>y=.non/\Q (.bl (decide (x=.non))) H):=by
 intro pins s σ H x y v u Q I rx ry h;obtain⟨rfl,q⟩:=h;cases ry;refine is_none_gen (bS I q ?_);cases x<;>first
  | (cases rx;rfl)
  | (obtain⟨t,rfl⟩:=rx;rfl)
theorem r_:bC X (compareOp .IsNot) (λx y H Q=>y=.non/\Q (.bl (!decide (x=.non))) H):=by
 intro pins s σ H x y v u Q I rx ry h;obtain⟨rfl,q⟩:=h;cases ry;refine isnot_none_gen (bS I q ?_);cases x<;>first
  | (cases rx;rfl)
  | (obtain⟨t,rfl⟩:=rx;rfl)
theorem sQ:bC X (compareOp .NotIn) (λx y H Q=>∃i j,x=.str i/\y=.str j/\Q (.bl (!(!(Builtin.Str.occurrences j i 0 j.length 1).isEmpty))) H):=by
 intro pins s σ H x y v u Q I rx ry h;obtain⟨i,j,rfl,rfl,q⟩:=h;obtain⟨t,rfl⟩:=rx;obtain⟨t',rfl⟩:=ry;exact notIn_str (bS I q rfl)
theorem aR(b:Expr){op:CmpOp}(h:autoParam (op≠.In) zz1._auto_1)(h2:autoParam (op≠.NotIn) zz1._auto_1):behindInMarks op b=false:=by
 have c:(op==CmpOp.In)=false:=by cases op<;>first | rfl | exact q0Q rfl h
 have a:(op==CmpOp.NotIn)=false:=by cases op<;>first | rfl | exact q0Q rfl h2
 cases b<;>simp[behindInMarks,c,a]
theorem gm{op:CmpOp}{r:R2}(ho:bC X (compareOp op) r)(ha:PE X a ta)(hb:PE X b tb)(hm:behindInMarks op b=false):PE X (.Compare a [op] [b] pos) (ET r ta tb):=by
 intro c s σ H Q I h;exact wpAny_Compare1 (Fl ha hb I h λv u e x y H2 k j g q=>ho c e σ H2 x y v u Q k j g q) hm
def vK(t:TE):TT:=λσ H Q=>t σ H λx H'=>∃k,x=.bl k/\Q k H'
theorem aN{op:CmpOp}{r:R2}(ho:bC X (compareOp op) r)(ha:PE X a ta)(hb:PE X b tb)(hm:behindInMarks op b=false):PT X (.Compare a [op] [b] pos) (vK (ET r ta tb)):=by
 intro g s σ H Q I h;refine wpAny_isTrue_Compare1 (ci (ha g s σ H _ I h) λv l ⟨x,H1,D,o,w⟩=>ci (hb g l σ H1 _ D w) λu j ⟨y,H2,C,n,q⟩=>
  ci (ho g j σ H2 x y v u _ C o n q) λc s3 ⟨z,G,B,m,k,e,p⟩=>?_) hm
 subst e;cases m;exact wpAny_truthy_bool ⟨G,B,p⟩
def tL(r r':R2)(ta tb tc:TE):TE:=λσ H Q=>ta σ H λx H1=>tb σ H1 λy H2=>r x y H2 λz H3=>∃k,z=.bl k /\
 (if k=true then tc σ H3 λw' H4=>r' y w' H4 Q else Q (.bl false) H3)
theorem v4{op op':CmpOp}{r r':R2}(ho:bC X (compareOp op) r)(ho':bC X (compareOp op') r')(ha:PE X a ta)(hb:PE X b tb)(hc:PE X c tc)
  (hm:autoParam (lastMarks [op,op'] [b,c]=false) zz5._auto_1):PE X (.Compare a [op,op'] [b,c] pos) (tL r r' ta tb tc):=by
 intro g s σ H Q I h;refine Compare_chain (ci (ha g s σ H _ I h) λv B ⟨x,H1,S,G,M⟩=>chain_link (ci (hb g B σ H1 _ S M) λu w ⟨y,H2,R,j,L⟩=>
  ci (ho g w σ H2 x y v u _ R G j L) λd q ⟨z,n,m,D,k,e,l⟩=>?_)) hm
 subst e;cases D;refine wpAny_truthy_bool ?_;cases k with
 |false=>exact ite_ff ⟨.bl false,n,m,rfl,l⟩
 |true=>exact ite_tt (chain_last (ci (hc g q σ n _ m l) λw' p ⟨o,T,O,C,J⟩=>ho' g p σ T y o u w' Q O j C J))
theorem AT{op op':CmpOp}{r r':R2}(ho:bC X (compareOp op) r)(ho':bC X (compareOp op') r')(ha:PE X a ta)(hb:PE X b tb)(hc:PE X c tc)
  (hm:autoParam (lastMarks [op,op'] [b,c]=false) zz5._auto_1):PT X (.Compare a [op,op'] [b,c] pos) (vK (tL r r' ta tb tc)):=by
 intro g s σ H Q I h;refine isTrue_chain (ci (ha g s σ H _ I h) λv B ⟨x,H1,I1,J,R⟩=>test_link (ci (hb g B σ H1 _ I1 R) λu w ⟨y,H2,I2,j,O⟩=>
  ci (ho g w σ H2 x y v u _ I2 J j O) λd q ⟨z,n,m,G,k,e,l⟩=>?_)) hm
 subst e;cases G;refine wpAny_truthy_bool ?_;cases k with
 |false=>
  obtain⟨k',U,S⟩:=l;cases U;exact ite_ff ⟨n,m,S⟩
 |true=>
  refine ite_tt (test_last (ci (hc g q σ n _ m l) λw' p ⟨o,H4,Z,D,M⟩=>ci (ho' g p σ H4 y o u w' _ Z j D M) λd' s5 ⟨z2,H5,Y,C,k2,T,L⟩=>?_));subst T;cases C;exact wpAny_truthy_bool ⟨H5,Y,L⟩
theorem mM:(sizeLine:Nat)<2 ^ 63:=by rw[q0W];decide
theorem fS:bC X (binaryOp .Add) (λx y H Q=>∃i j,x=.str i/\y=.str j/\i.length+j.length<=sizeLine/\Q (.str (i++j)) H):=by
 intro pins s σ H x y v u Q I rx ry h;obtain⟨i,j,rfl,rfl,b,q⟩:=h;obtain⟨t,rfl⟩:=rx;obtain⟨a,rfl⟩:=ry;exact add_str (λa tk=>⟨.str (i++j),H,I.tok _,⟨_,rfl⟩,q⟩) b
theorem vX{x:V}{us:LQ}(r:bh [x] us):∃u,us=[u]/\bG x u:=by
 cases r with
 |cons r1 r2=>cases r2;exact⟨_,rfl,r1⟩
theorem GV{x y:V}{us:LQ}(r:bh [x,y] us):∃u w',us=[u,w']/\bG x u/\bG y w':=by
 cases r with
 |cons r1 r2=>
  cases r2 with
  |cons r3 r4=>cases r4;exact⟨_,_,rfl,r1,r3⟩
theorem zi(hc:X.calm=true):g7 X (.builtin "max") (λxs H Q=>∃i j,xs=[.int i,.int j]/\Q (.int (if j>i then j else i)) H):=by
 intro pins s σ H xs us Q I r h;obtain⟨i,j,rfl,q⟩:=h;obtain⟨u,w',rfl,⟨t,rfl⟩,⟨t',rfl⟩⟩:=GV r;refine max_two_ints (I.ok.hd hc) λh' tk k=>⟨_,H,I.kept k,?_,q⟩
 by_cases a:j>i
 ·rw[q07 a,q07 a];exact⟨_,rfl⟩
 ·rw[q06 a,q06 a];exact⟨_,rfl⟩
end
structure xK(h:Heap)(x dx C:Addr)(mA:LS):Prop where
 obj:h.get? x=some (PySem.W.instObj C dx)
 ns:h.Ns1 dx mA
 ne:dx≠x
set_option tactic.hygienic true in
theorem zw{h:Heap}{mA:LS}(n:h.Ns1 dx mA):∃od,h.get? dx=some od/\∀name,PySem.W.lookIn name od=some (mA name):=by
 obtain⟨o,es,ep,ho,hd,hk,_,hm⟩:=n;refine⟨o,ho,λname=>?_⟩;have e:=hm name;unfold nsFind findBy at e;rw[<- Array.find?_toList]at e;unfold PySem.W.lookIn;rw[hd];dsimp only
 split
 ·rename_i y q
  rw[q]at e;exact q0R some e
 ·rename_i q
  rw[q]at e;have a:es.toList.any (·.refKey)=false:=by
   rw[List.any_eq_false];intro y hy;obtain⟨z,t,hkey⟩:=hk y (Array.mem_toList_iff.mp hy);simp[DictEntry.refKey,hkey]
  have a':¬ es.toList.any (·.refKey)=true:=by rw[a];exact Ld
  rw[q06 a'];exact q0R some e
theorem xK.look{mA:LS}(I:xK h x dx C mA):∃od,PySem.W.InstAt h x (PySem.W.instObj C dx) C (some od)/\∀name,PySem.W.lookIn name od=some (mA name):=
 let ⟨od,ho,hl⟩:=zw I.ns
 ⟨od,⟨I.obj,rfl,rfl,ho⟩,hl⟩
section
variable {prog:LV}{w:LY}{A:LX}{E:LL}{s:LP}{K:LM}{x dx C f:Addr}{mA:LS}{name:Str}{v:Value}
theorem CP{expr:Bool}{Q:LL}(X:K.In s.heap)(I:xK s.heap x dx C mA)(hg:PySem.W.plainGet K C name=true)(hh:PySem.W.hasDictIn K C=true)
  (ha:PySem.W.findIn K (.ref C) name=some none) (hv:mA name=some v) (hv':PySem.W.handedIn v=true) (h:Q v {s with toks:=s.toks+1}) :
  wpAny c⁻¹ A (getAttr (.ref x) name expr) Q E s:=by
 obtain⟨od,J,a⟩:=I.look;exact PySem.W.get_value X J (PySem.W.plainGet_of hg).1 (PySem.W.findObj_own hh ha rfl (by rw[a,hv])) hv' h
theorem Bx{pl:Sem Bool}{Q:Value×List Value->Shared->Prop}(X:K.In s.heap)(I:xK s.heap x dx C mA)(hg:PySem.W.plainGet K C name=true)
  (hf:PySem.W.findIn K (.ref C) name=some (some (.ref f))) (ht:PySem.W.isFn K (.ref f)=true) (hv:mA name=none) (h:Q (.ref f,[.ref x]) s) :
  wpAny c⁻¹ A (getMethod (.ref x) name pl) Q E s:=by
 obtain⟨a,J,b⟩:=I.look;exact PySem.W.method_fn X J (PySem.W.plainGet_of hg).1 (PySem.W.plainGet_of hg).2 hf (beq_iff_eq.mp ht) (by show(PySem.W.lookIn name a).map (·.isSome)=some false;rw[b,hv];rfl) h
theorem DQ{ns:LW}{Q:Unit->Shared->Prop}(X:K.In s.heap)(I:xK s.heap x dx C mA)
  (hs:PySem.W.findIn K (.ref C) "__setattr__"=some (some (.builtin "object.__setattr__"))) (hp:PySem.W.plainOver K C=true) (ht:PySem.W.takerIn K C name=some none) (hh:PySem.W.hasDictIn K C=true)
  (hw:PySem.Within mA ns) (hsz:ns.length<=sizeLine)
  (h:∀h',xK h' x dx C (λy=>if y=name then some v else mA y)->Heap.SameBut dx s.heap h'->Q () {s with heap:=h',toks:=s.toks+2}) :
  wpAny c⁻¹ A (setAttr (.ref x) name v) Q E s:=by
 obtain⟨od,J,hl⟩:=I.look;refine PySem.W.set_plain X J hs (PySem.W.osa_open (s:={s with toks:=s.toks+1}) (r:=none) X J hp ht λb=>?_);obtain⟨cd,n,k⟩:=PySem.W.any_some hh;have m:s.heap.get? x=some ⟨.ref C,some dx,.plain,#[]⟩:=I.obj;refine q04 (q05 (q04 (q04 (wpAny_loadPart m (q04 (PySem.W.Looks.here (s:={s with toks:=s.toks+1}) (PySem.W.looks_clsIn X n) ?_))))));rw[k];refine q05 (a:=some dx) (q04 (q05 (q04 ?_)));refine wpAny_nsSet1 (s:={s with toks:=s.toks+1}) I.ns λh' e c=>?_;obtain⟨oD,esD,epD,g,j,l⟩:=e.count (PySem.Within.cons name v hw);refine q04 (wpAny_lookBehind g (by rw[j];exact pastItsLine_dict (Lj l (by rw[K1];omega))) ?_);exact q05 (h _ ⟨(c.2 _ (Ne.symm I.ne)).trans I.obj,e,I.ne⟩ c)
theorem AE{R:Result->Shared->Prop}{vs:LQ}{kw:List (Str×Value)}(X:K.In s.heap)(hm:PySem.W.makesIn K C=true)
  (hi:PySem.W.findIn K (.ref C) "__init__"=some (some (.ref f))) (hf:PySem.W.typeIn K (.ref f)=some (.type "function"))
  (h:codeAny c⁻¹ (A.under (.builtin "type.__call__" ⟨.ref C::vs,kw⟩)) (.call (.ref f) ⟨.ref (s.heap.objs.size+1)::vs,kw⟩) (PySem.W.InitBack (s.heap.objs.size+1) R)
   {s with heap:=(s.heap.push PySem.W.emptyDict).push (PySem.W.instObj C s.heap.objs.size)}) :
  codeAny c⁻¹ A (.call (.ref C) ⟨vs,kw⟩) R s:=by
 obtain⟨hh,g,d,t,os⟩:=s;exact PySem.W.make_core (PySem.W.makes_of X hm) (PySem.W.looks_findIn X hi) (λself=>PySem.W.bind_fn X self hf) (.inl rfl) h
end
def cM(f:Str)(v:V):List (Str×V)->List (Str×V)
 | []=>[(f,v)]
 | (g,x)::r=>if g=f then(g,v)::r else(g,x)::cM f v r
theorem m7(f g:Str)(v:V):∀fs:List (Str×V),(cM f v fs).lookup g=if g=f then some v else fs.lookup g
 | []=>by
  show List.lookup g [(f,v)]=_
  by_cases h:g=f
  ·have hb:(g==f)=true:=beq_iff_eq.mpr h
   simp only[List.lookup,hb,q07 h]
  ·have hb:(g==f)=false:=beq_eq_false_iff_ne.mpr h
   simp only[List.lookup,hb,q06 h]
 | (k,x)::r=>by
  have ih:=m7 f g v r;rw[show cM f v ((k,x)::r)=(if k=f then(k,v)::r else(k,x)::cM f v r) from rfl]
  by_cases hk:k=f
  ·rw[q07 hk]
   by_cases h:g=k
   ·have hb:(g==k)=true:=beq_iff_eq.mpr h
    simp only[List.lookup,hb,q07 (h.trans hk)]
   ·have hb:(g==k)=false:=beq_eq_false_iff_ne.mpr h
    simp only[List.lookup,hb,q06 (λe:g=f=>h (e.trans hk.symm))]
  ·rw[q06 hk]
   by_cases h:g=k
   ·have hb:(g==k)=true:=beq_iff_eq.mpr h
    simp only[List.lookup,hb,q06 (λe:g=f=>hk (h.symm.trans e))]
   ·have hb:(g==k)=false:=beq_eq_false_iff_ne.mpr h
    simp only[List.lookup,hb];exact ih
theorem me(f:Str)(v:V):∀fs:List (Str×V),f∈(cM f v fs).map (·.1)/\∀g,g∈fs.map (·.1)->g∈(cM f v fs).map (·.1)
 | []=>⟨by simp[cM],λg h=>by simp at h⟩
 | (k,x)::r=>by
  obtain⟨i1,i2⟩:=me f v r;rw[show cM f v ((k,x)::r)=(if k=f then(k,v)::r else(k,x)::cM f v r) from rfl]
  by_cases hk:k=f
  ·rw[q07 hk]
   subst hk;exact⟨by simp,λg h=>by simpa using h⟩
  ·rw[q06 hk]
   refine⟨?_,λg h=>?_⟩
   ·rw[Lh]
    exact K6 _ i1
   ·rw[Lh]at h ⊢
    rcases K5.mp h with e | e
    ·exact K5.mpr (.inl e)
    ·exact K6 _ (i2 g e)
theorem dj(f:Str)(v:V):∀fs:List (Str×V),(cM f v fs).length<=fs.length+1
 | []=>by simp[cM]
 | (k,x)::r=>by
  have ih:=dj f v r;rw[show cM f v ((k,x)::r)=(if k=f then(k,v)::r else(k,x)::cM f v r) from rfl]
  by_cases hk:k=f
  ·rw[q07 hk,K1,K1];omega
  ·rw[q06 hk,K1,K1];omega
theorem iW.some_of{v:V}{o:Option Value}(r:iW (some v) o):∃u,o=some u/\bG v u:=by
 cases o with
 |none=>exact(show False from r).elim
 |some u=>exact⟨u,rfl,r⟩
theorem iW.none_of(r:iW none o):o=none:=by
 cases o with
 |none=>rfl
 |some u=>exact(show False from r).elim
theorem zR(r:bG v u):PySem.W.handedIn u=true:=by
 cases v with
 |non=>cases(show u=Value.none from r);rfl
 |bl b=>cases(show u=Value.bool b from r);rfl
 |int i=>obtain⟨t,e⟩:=(show ∃t,u=Value.int i t from r);cases e;rfl
 |str x=>obtain⟨t,e⟩:=(show ∃t,u=Value.str x t from r);cases e;rfl
 |byt b=>obtain⟨t,e⟩:=(show ∃t,u=Value.bytes b t from r);cases e;rfl
 |flt b=>obtain⟨t,e⟩:=(show ∃t,u=Value.float b t from r);cases e;rfl
 |ref a=>cases(show u=Value.ref a from r);rfl
 |ty n=>cases(show u=Value.type n from r);rfl
section
variable {P:LV}{w:LY}{H H':Hp}{h h':Heap}{a C dx:Addr}{fs fs':List (Str×V)}
theorem og(hok:kr P w H h)(e:H a=some (.ins C dx fs)):∃mA,xK h a dx C mA/\(∀f,iW (fs.lookup f) (mA f))/\PySem.Within mA (fs.map (·.1))/\fs.length<=1000/\H dx=some (.own a):=by
 obtain⟨d,z,c,b,mA,n,r,q⟩:=(show cG P w H h a (.ins C dx fs) from hok a _ e);exact⟨mA,⟨b,n,c⟩,r,q,z,d⟩
end
structure jA(K:LM)(C:Addr):Prop where
 pg:PySem.W.plainGet K C Str.empty=true
 hd:PySem.W.hasDictIn K C=true
 po:PySem.W.plainOver K C=true
 sa:PySem.W.findIn K (.ref C) "__setattr__"=some (some (.builtin "object.__setattr__"))
theorem jA.get{K:LM}(c:jA K C)(f:Str):PySem.W.plainGet K C f=true:=c.pg
def aC(K:LM)(C:Addr)(f:Str):Prop:=PySem.W.findIn K (.ref C) f=some none
theorem aC.taker{K:LM}{f:Str}(n:aC K C f):PySem.W.takerIn K C f=some none:=by
 unfold PySem.W.takerIn;rw[show PySem.W.findIn K (.ref C) f=some none from n]
 rfl
structure iX(K:LM)(C:Addr)(m:Str)(f:Addr):Prop where
 at_:PySem.W.findIn K (.ref C) m=some (some (.ref f))
 fn:PySem.W.isFn K (.ref f)=true
 kp:PySem.W.keepIn K (.ref f)=true
section
variable {X:Cx}{pins:LN}{σ:St}{H:Hp}{s:LP}{a C dx:Addr}{fs:List (Str×V)}{f:Str}{v:V}{A:LX}{E:LL}
theorem xt{Q:LL}(I:Inv X pins σ H s)(e:H a=some (.ins C dx fs))(c:jA X.K C)(n:aC X.K C f)(l:fs.lookup f=some v)
  (h:∀u s',Inv X pins σ H s'->bG v u->Q u s'):wpAny d⁻¹ A (getAttr (.ref a) f b) Q E s:=by
 obtain⟨j,O,r,_,_,_⟩:=og I.hok e;obtain⟨u,k,g⟩:=iW.some_of (v:=v) (o:=j f) (by rw[<- l];exact r f);exact CP I.kIn O (c.get f) c.hd n k (zR g) (h u _ (I.tok _) g)
theorem fW{pl:Sem Bool}{Q:Value×List Value->Shared->Prop}(I:Inv X pins σ H s)(e:H a=some (.ins C dx fs))(c:jA X.K C)(k:iX X.K C m g)(l:fs.lookup m=none)
  (h:Q (.ref g,[.ref a]) s):wpAny d⁻¹ A (getMethod (.ref a) m pl) Q E s:=by
 obtain⟨b,O,r,_,_,_⟩:=og I.hok e;have j:b m=none:=iW.none_of (by rw[<- l];exact r m);exact Bx I.kIn O (c.get m) k.at_ k.fn j h
theorem wF{Q:Unit->Shared->Prop}(I:Inv X pins σ H s)(e:H a=some (.ins C dx fs))(c:jA X.K C)(n:aC X.K C f)(hl:fs.length<1000)(ry:bG y u)
  (h:∀s',Inv X pins σ (aD H a (.ins C dx (cM f y fs))) s'->Q () s'):wpAny d⁻¹ A (setAttr (.ref a) f u) Q E s:=by
 obtain⟨l,O,r,k,_,m⟩:=og I.hok e;have v:(fs.map (·.1)).length<=sizeLine:=by rw[KO,q0W];omega
 refine DQ I.kIn O c.sa c.po n.taker c.hd k v λD j p=>h _ ?_;have hd:∃o,D.get? dx=some o:=let ⟨o,_,_,e',_⟩:=j.ns;⟨o,e'⟩
 refine I.write (x:=a) (e:=dx) (by rw[e];exact True.intro) (.inr m) (λb q B z=>(p.2 b B).trans z) hd ?_;refine⟨by rw[ar O.ne];exact m,?_,O.ne,j.obj,_,j.ns,λg=>?_,λg w=>?_⟩
 ·have:=dj f y fs;omega
 ·show iW ((cM f y fs).lookup g) (if g=f then some u else l g)
  rw[m7]
  by_cases q:g=f
  ·rw[q07 q,q07 q];exact ry
  ·rw[q06 q,q06 q];exact r g
 ·by_cases q:g=f
  ·rw[q];exact(me f y fs).1
  ·refine(me f y fs).2 g (k g λz=>w ?_)
   show(if g=f then some u else l g)=none;rw[q06 q];exact z
theorem Inv.made(I:Inv X pins σ H s):Inv X pins σ (aD (aD H s.heap.objs.size (.own (s.heap.objs.size+1))) (s.heap.objs.size+1) (.ins C s.heap.objs.size []))
  {s with heap:=(s.heap.push PySem.W.emptyDict).push (PySem.W.instObj C s.heap.objs.size)}:=by
 have g:(s.heap.push PySem.W.emptyDict).get? s.heap.objs.size=some PySem.W.emptyDict:=KU s.heap rfl;have m:((s.heap.push PySem.W.emptyDict).push (PySem.W.instObj C s.heap.objs.size)).get? (s.heap.objs.size+1)=some (PySem.W.instObj C s.heap.objs.size):=by
  have:=KU (s.heap.push PySem.W.emptyDict) (o:=PySem.W.instObj C s.heap.objs.size) rfl
  rwa [Heap.size_push]at this
 have l:(s.heap.push PySem.W.emptyDict).Ns s.heap.objs.size (λ_=>none):=⟨PySem.W.emptyDict,#[],_,g,rfl,(λe k=>q0Q k (by simp)),λ_=>rfl⟩;have n:=I.laid (a:=s.heap.objs.size) (o:=.own (s.heap.objs.size+1)) (h':=s.heap.push PySem.W.emptyDict) (t':=s.toks) (λb u q=>KN _ q) (Lb _) ⟨_,g⟩;refine n.laid (a:=s.heap.objs.size+1) (o:=.ins C s.heap.objs.size []) (t':=s.toks) (λb u q=>KN _ q) (Nat.le_of_eq (Heap.size_push _ _)) ?_;have c:s.heap.objs.size≠s.heap.objs.size+1:=K9 (Ll _);refine⟨by rw[ar c,af],Lc _,c,m,λ_=>none,(Heap.Ns1.of_empty l).at λo q=>KN _ q,λ_=>True.intro,λy j=>q0Q rfl j⟩
theorem D'{prog:LV}{env:Env}{f:Str}{pos:Pos}{Q:LL}(hb:attributeBase e f env (eval e env)=eval e env)
  (h:wpAny c⁻¹ A (eval e env) (λo s₁=>wpAny c⁻¹ A (getAttr o f true) Q E s₁) E s):wpAny c⁻¹ A (eval (.Attribute e f pos) env) Q E s:=
 Attribute_any_ h (by rw[arm_eval_Attribute,hb])
end
def D0(K:LM)(ta:TE)(f:Str):TE:=λσ H Q=>ta σ H λx H1=>∃a C dx fs v,x=.ref a/\H1 a=some (.ins C dx fs)/\jA K C/\aC K C f/\fs.lookup f=some v/\Q v H1
def Fv(K:LM)(ta tv:TE)(f:Str):TS:=λD σ H=>tv σ H λy H1=>ta σ H1 λx H2=>∃a C dx fs,x=.ref a/\H2 a=some (.ins C dx fs)/\jA K C/\aC K C f/\fs.length<1000 /\
 D.nx σ (aD H2 a (.ins C dx (cM f y fs)))
section
variable {X:Cx}{o e value:Expr}{f:Str}{pos pos' tpos:Pos}{ta tv:TE}
theorem cq(he:PE X e ta)(hb:attributeBase e f X.env (eval e X.env)=eval e X.env):PE X (.Attribute e f pos) (D0 X.K ta f):=by
 intro b s σ H Q I h;refine D' hb (ci (he b s σ H _ I h) λu s1 ⟨x,H1,p,g,a,C,dx,fs,v,k,m,c,n,l,q⟩=>?_);subst k;obtain rfl:u=Value.ref a:=g;exact xt p m c n l λu' s2 o j=>⟨v,H1,o,j,q⟩
theorem c8(ha:PE X o ta)(hv:PE X value tv)(hs:swapsWith value (some (.Attribute o f pos')) pos.line X.env=pure false):PS X (.Assign [.Attribute o f pos'] value pos) (Fv X.K ta tv f):=by
 intro b s σ H D I h;refine plainObj_wpAny_Assign_Attribute (ci (hv b s σ H _ I h) λu e ⟨y,H1,w,g,q⟩=>ci (ha b e σ H1 _ w q) λov s2 ⟨x,H2,v,j,a,C,dx,fs,m,p,c,n,l,k⟩=>?_) hs;subst m;obtain rfl:ov=Value.ref a:=j;exact wF v p c n l g λs3 r=>⟨σ,_,r,k⟩
end
section
variable {X:Cx}{pins:LN}{σ:St}{H:Hp}{s:LP}{A:LX}{E:LL}{Q:LL}{c:Value}{b:Bool}
inductive jw(K:LM)(H:Hp):V->Value->Prop where
 |non:jw K H .non (.type "NoneType")
 |bl (x:Bool):jw K H (.bl x) (.type "bool")
 |int (i:Int):jw K H (.int i) (.type "int")
 |str (x:Str):jw K H (.str x) (.type "str")
 |flt (x:UInt64):jw K H (.flt x) (.type "float")
 |lst {a:Addr} {xs:List V} (e:H a=some (.lst xs)):jw K H (.ref a) (.type "list")
 |frz {a:Addr} {o:Obj} {xs:List V} (e:H a=some (.frz o (.lst xs))):jw K H (.ref a) (.type "list")
 |tup {a:Addr} {xs:List V} (e:H a=some (.tup xs)):jw K H (.ref a) (.type "tuple")
 |dK {a:Addr} {kvs:List (c_×V)} (e:H a=some (.dK kvs)):jw K H (.ref a) (.type "dict")
 |dT {a:Addr} {kvs:List (List c_×V)} (e:H a=some (.dT kvs)):jw K H (.ref a) (.type "dict")
 |ins {a C dx:Addr} {fs:List (Str×V)} (e:H a=some (.ins C dx fs)) (cl:jA K C) (ha:PySem.W.findIn K (.ref C) "__class__"=some (some (.builtin "object.__class__")))
   (hn:PySem.W.specialIn K (.builtin "object.__class__") "__get__"=some (some (.builtin "getset_descriptor.__get__"))) (htk:PySem.W.takesIn K (.builtin "object.__class__")=some true)
   (hm:PySem.W.mroIn K C (.type "object")=some true):jw K H (.ref a) (.ref C)
theorem zW{t:Value}(I:Inv X pins σ H s)(rx:bG x u)(ty:jw X.K H x t)(e:PySem.W.kitOne X.K t c=some b)(h:∀tk,Q (.bool b) {s with toks:=tk}) :
  wpAny d⁻¹ A (call (.builtin "isinstance") [u,c]) Q E s:=by
 cases ty with
 |non=>cases(show u=Value.none from rx);exact PySem.W.kia_one PySem.W.kitx_none I.kIn True.intro e (λz=>nomatch z) h
 |bl y=>cases(show u=Value.bool y from rx);exact PySem.W.kia_one PySem.W.kitx_bool I.kIn True.intro e (λz=>nomatch z) h
 |int i=>obtain⟨t,q⟩:=(show ∃t,u=Value.int i t from rx);cases q;exact PySem.W.kia_one PySem.W.kitx_int I.kIn True.intro e (λz=>nomatch z) h
 |str y=>obtain⟨t,q⟩:=(show ∃t,u=Value.str y t from rx);cases q;exact PySem.W.kia_one PySem.W.kitx_str I.kIn True.intro e (λz=>nomatch z) h
 |flt y=>obtain⟨t,q⟩:=(show ∃t,u=Value.float y t from rx);cases q;exact PySem.W.kia_one PySem.W.kitx_float I.kIn True.intro e (λz=>nomatch z) h
 | @lst a g ea=>
  cases(show u=Value.ref a from rx);obtain⟨_,_,n,_,h1⟩:=(show cG X.prog X.w H s.heap a (.lst g) from I.hok a _ ea);exact PySem.W.kia_one PySem.W.kitx_list I.kIn ⟨_,h1,rfl⟩ e (λz=>nomatch z) h
 | @frz a ob g ea=>
  cases(show u=Value.ref a from rx);obtain⟨_,_,_,n,_,h1⟩:=(show cG X.prog X.w H s.heap a (.frz ob (.lst g)) from I.hok a _ ea);exact PySem.W.kia_one PySem.W.kitx_list I.kIn ⟨_,h1,rfl⟩ e (λz=>nomatch z) h
 | @tup a g ea=>
  cases(show u=Value.ref a from rx);obtain⟨_,_,_,p⟩:=(show cG X.prog X.w H s.heap a (.tup g) from I.hok a _ ea);obtain⟨o,h1,h2,_⟩:=p;exact PySem.W.kia_one PySem.W.kitx_tuple I.kIn ⟨o,h1,h2⟩ e (λz=>nomatch z) h
 | @dK a kvs ea=>
  cases(show u=Value.ref a from rx);obtain⟨_,_,vs,_,p⟩:=(show cG X.prog X.w H s.heap a (.dK kvs) from I.hok a _ ea);obtain⟨o,j,k,h1,h2,_⟩:=p;exact PySem.W.kia_one PySem.W.kitx_dict I.kIn ⟨o,h1,h2.1⟩ e (λz=>nomatch z) h
 | @dT a kvs ea=>
  cases(show u=Value.ref a from rx);obtain⟨_,_,g,_,o,j,k,h1,h2,_⟩:=(show cG X.prog X.w H s.heap a (.dT kvs) from I.hok a _ ea);exact PySem.W.kia_one PySem.W.kitx_dict I.kIn ⟨o,h1,h2.1⟩ e (λz=>nomatch z) h
 | @ins a C dx fs ea cl ha hn htk hm=>
  cases(show u=Value.ref a from rx);obtain⟨mA,O,_⟩:=og I.hok ea;obtain⟨od,J,_⟩:=O.look;exact PySem.W.kia_one (PySem.W.kitx_own (cl.get _) cl.hd ha hn htk hm) I.kIn J e (λz=>nomatch z) h
end
structure cQ(k:Nat)(A:LX):Prop where
 hd:A.handled=none
 dp:A.depth+3*k+5<recursionLimit
 un:A.units+16*k+200<cLine
theorem cQ.mono{j:Nat}(r:cQ k A)(h:j<=k):cQ j A:=⟨r.hd,by have:=r.dp;omega,by have:=r.un;omega⟩
theorem cQ.deeper{k:Nat}{A:LX}(r:cQ (k+1) A)(env:Env):cQ k (A.deeper env):=
 ⟨r.hd,by have:=r.dp;show A.depth+1+3*k+5<_;omega,by have:=r.un;show A.units+3+16*k+200<_;omega⟩
theorem cQ.in1{k:Nat}{A:LX}(r:cQ (k+1) A):cQ k A.in1:=
 ⟨r.hd,by have:=r.dp;show A.depth+3*k+5<_;omega,by have:=r.un;show A.units+1+16*k+200<_;omega⟩
theorem xD{A:LX}{C:Addr}{us:LQ}{kw:List (Str×Value)}:(A.under (.builtin "type.__call__" ⟨.ref C::us,kw⟩)).depth=A.depth+1:=by
 first | rfl | simp[Around.under,Code.weight,Code.isCreation,Code.isGuard,Code.isCaller,Code.frames,Code.isFrame,guardIds]
theorem xQ{A:LX}{C:Addr}{us:LQ}{kw:List (Str×Value)}:(A.under (.builtin "type.__call__" ⟨.ref C::us,kw⟩)).units=A.units+1:=by
 first | rfl | simp[Around.under,Code.cUnits,Code.frames,Code.isFrame]
theorem cQ.make{k:Nat}{A:LX}(r:cQ (k+1) A)(C:Addr)(us:LQ)(kw:List (Str×Value)):cQ k (A.under (.builtin "type.__call__" ⟨.ref C::us,kw⟩)):=
 ⟨r.hd,by have:=r.dp;rw[xD];omega,by have:=r.un;rw[xQ];omega⟩
theorem cQ.depth(r:cQ k A):A.depth<recursionLimit:=by have:=r.dp;omega
theorem cQ.units(r:cQ k A):A.units+64<cLine:=by have:=r.un;omega
def oN:TA:=λ_ H Q=>Q [] H
def ke(ta:TE)(tr:TA):TA:=λσ H Q=>ta σ H λx H1=>tr σ H1 λxs H2=>Q (x::xs) H2
section
variable {X:Cx}{e:Expr}{es:L3}{te:TE}{t:TA}{pos:Pos}
theorem ad:PA X [] oN:=λ_ _ _ _ H Q I h=>Calls.spliced_nil ⟨[],H,I,.nil,h⟩
theorem ac(ha:PE X e te)(hr:PA X es t)(hs:autoParam (starEach (e::es) X.env=(false,eval e X.env)::starEach es X.env) zz0._auto_1):PA X (e::es) (ke te t):=by
 intro b a s σ H Q I h;rw[hs];show wpAny _ _ (spliced ((false,eval e X.env)::backTo b (starEach es X.env))) _ _ s;refine Calls.spliced_cons (ci (ha a s σ H _ I h) λu g ⟨x,H1,o,k,m⟩=>?_);exact ci (hr b a g σ H1 _ o m) λus s2 ⟨c,H2,n,j,l⟩=>⟨x::c,H2,n,.cons k j,l⟩
def Fm(t:TA):TE:=λσ H Q=>t σ H λxs H1=>xs.length<=sizeLine/\∀p,H1 p=none->Q (.ref p) (aD H1 p (.tup xs))
def D7(t:TA):TE:=λσ H Q=>t σ H λxs H1=>xs.length<=sizeLine/\∀p,H1 p=none->Q (.ref p) (aD H1 p (.lst xs))
theorem bD{x1}(h:PA X es t):PE X (.Tuple es x1 pos) (Fm t):=by
 intro a s σ H Q I hq;refine wpAny_Tuple_spliced (ci (h pos a s σ H _ I hq) λus c ⟨j,H1,g,r,z,q⟩=>⟨by rw[<- r.length];exact z,?_⟩);have k:H1 c.heap.objs.size=none:=g.hok.fresh (Lb _);refine⟨.ref c.heap.objs.size,aD H1 c.heap.objs.size (.tup j),g.laid (t':=c.toks) (λb u e=>KN _ e) (Lb _) ?_,rfl,q _ k⟩;exact⟨z,us,r,⟨_,KU _ rfl,rfl,_,rfl⟩⟩
theorem bI(h:PA X es t):PE X (.List es pos) (D7 t):=by
 intro a s σ H Q I hq;refine wpAny_List_spliced (ci (h pos a s σ H _ I hq) λus c ⟨j,H1,g,r,z,q⟩=>⟨by rw[<- r.length];exact z,?_⟩);have k:H1 c.heap.objs.size=none:=g.hok.fresh (Lb _);refine⟨.ref c.heap.objs.size,aD H1 c.heap.objs.size (.lst j),g.laid (t':=c.toks) (λb u e=>KN _ e) (Lb _) ?_,rfl,q _ k⟩;exact⟨z,us,0,r,KU _ rfl⟩
end
abbrev Sp:=List V->Hp->VK->XK->Prop
abbrev j9:=List Env->Hp->Shared->XK->Value->Shared->Prop
structure pT(P:LV)(w:LY)(K:LM)(mg:LS)(base:Heap)(A:LX)(outer:List Env)(s:LP)(H:Hp):Prop where
 frames:A.frames=some outer
 mod:Mod K mg base
 bs:∀b o,base.get? b=some o->s.heap.get? b=some o/\H b=none
 bsz:base.objs.size<=s.heap.objs.size
 funs:s.heap.FunFrames base outer
 frf:∀b∈xT outer,H b=none
 hok:kr P w H s.heap
 bare:AllBare s.gens
def CE(outer:List Env)(P:LV)(w:LY)(H:Hp)(s:LP)(Q:VK)(u:Value)(s':LP):Prop:=
 ∃v H',s'.os=s.os/\AllBare s'.gens/\Un (xT outer) [] H H' s.heap s'.heap/\kr P w H' s'.heap/\bG v u/\Q v H'
def CR(CX:j9)(outer:List Env)(P:LV)(w:LY)(H:Hp)(s:LP)(Q:VK)(E:XK)(r:Result)(s':LP):Prop:=
 match r with
 | .ok (.ret u)=>CE outer P w H s Q u s'
 | .ok _=>False
 | .error e=>CX outer H s E e s'
structure bj(P:LV)(w:LY)(K:LM)(mg:LS)(base:Heap)(CX:j9)(k:Nat)(f:Addr)(fd:LU)(ps:LW)(sp:Sp):Prop where
 len:∀vs H Q E,sp vs H Q E->vs.length=ps.length
 run:∀(A:LX) (outer:List Env) (s:LP) (H:Hp) (args:Args) (us:LQ) (vs:List V) (Q:VK) (E:XK),cQ k A->pT P w K mg base A outer s H->BindsTo s fd args (ps.zip us)->bh vs us->sp vs H Q E ->
  codeAny (model P w) A (.call (.ref f) args) (CR CX outer P w H s Q E) s
theorem bj.mono{K:LM}{mg:LS}{base:Heap}{CX:j9}{k:Nat}{f:Addr}{ps:LW}{sp:Sp}(F:bj P w K mg base CX j f fd ps sp)(h:j<=k) :
  bj P w K mg base CX k f fd ps sp:=⟨F.len,λA outer s H args us vs Q E hr=>F.run A outer s H args us vs Q E (hr.mono h)⟩
theorem pT.make{K:LM}{mg:LS}{base:Heap}{outer:List Env}(e:pT P w K mg base A outer s H)(C:Addr)(us:LQ)(kw:List (Str×Value)) :
  pT P w K mg base (A.under (.builtin "type.__call__" ⟨.ref C::us,kw⟩)) outer s H:=⟨by first | exact e.frames | (simpa[Around.under,Code.envs,Code.isFrame,pushEnvs]using e.frames),e.mod,e.bs,e.bsz,e.funs,e.frf,e.hok,e.bare⟩
theorem pT.in1{K:LM}{mg:LS}{base:Heap}{outer:List Env}(e:pT P w K mg base A outer s H) :
  pT P w K mg base A.in1 outer s H:=⟨e.frames,e.mod,e.bs,e.bsz,e.funs,e.frf,e.hok,e.bare⟩
section
variable {X:Cx}{pins:LN}{σ:St}{H:Hp}{s s':LP}
theorem Inv.env0(I:Inv X pins σ H s):pT X.prog X.w X.K X.mg X.base X.A X.stack s H:=
 ⟨I.ok.frames,I.ok.mod,I.bs,Lj I.ok.bsz I.sz,I.stack,I.stkFree,I.hok,I.bare⟩
theorem Inv.after(I:Inv X pins σ H s)(h:CE X.stack X.prog X.w H s Q u s'):EP X pins σ Q u s':=by
 obtain⟨v,k,os,a,un,e,r,q⟩:=h;obtain⟨j,g,d,t,c⟩:=s';obtain rfl:c=s.os:=os;exact⟨v,k,I.call (h':=j) (g':=g) (d':=d) (t':=t) (ch:=[]) un e a (λb z=>q0Q z (by simp)),r,q⟩
end
def kZ(sp:Sp)(dvs:List V)(E:XK)(t:TA):TE:=λσ H Q=>t σ H λvs H1=>sp (vs++dvs) H1 Q E
def rV(C:Addr)(m:Str)(sp:Sp)(dvs:List V)(E:XK)(ta:TE)(t:TA):TE:=λσ H Q=>ta σ H λx H1=>∃a dx fs,x=.ref a/\H1 a=some (.ins C dx fs)/\fs.lookup m=none /\
 t σ H1 λvs H2=>sp (x::(vs++dvs)) H2 Q E
def yu(C:Addr)(sp:Sp)(dvs:List V)(E:XK)(t:TA):TE:=λσ H Q=>t σ H λvs H1=>∀x dx,H1 x=none->H1 dx=none->dx≠x ->
 sp (.ref x::(vs++dvs)) (aD (aD H1 dx (.own x)) x (.ins C dx [])) (λv H2=>v=.non/\Q (.ref x) H2) E
def dO(K:LM)(fd:LU)(ps:LW)(ds:LQ):Prop:=
 ∀(s:LP) (us:LQ),K.In s.heap->(us++ds).length=ps.length->BindsTo s fd ⟨us,[]⟩ (ps.zip (us++ds))
theorem dO.all{K:LM}{ps:LW}(h:∀us:List Value,us.length=ps.length->bindArgs fd ⟨us,[]⟩=pure (ps.zip us)):dO K fd ps []:=λs us _ hl=>by
 rw[Lm]at hl ⊢;exact .of_eq (h us hl)
def dC(CX:j9)(X:Cx)(E:XK):Prop:=∀(pins:LN) (σ:St) (H:Hp) (s:LP) (e:Value) (s':LP),Inv X pins σ H s->CX X.stack H s E e s'->X.xe e s'
section
variable {X:Cx}{CX:j9}{k:Nat}{f C:Addr}{fd:LU}{ps:LW}{sp:Sp}{dvs:List V}{ds:LQ}{E:XK}{x m:Str}{p pos apos:Pos}{e o:Expr}{es:L3}{ta:TE}{t:TA}
theorem mf{pins:LN}{σ:St}(F:bj X.prog X.w X.K X.mg X.base CX k f fd ps sp)(hr:cQ k X.A)(hb:dO X.K fd ps ds)(hd:bh dvs ds)(hx:dC CX X E)
  (I:Inv X pins σ H s) (r:bh vs us) (h:sp (vs++dvs) H Q E):wpAny d⁻¹ X.A (call (.ref f) us) (EP X pins σ Q) X.xe s:=by
 have b:bh (vs++dvs) (us++ds):=r.append hd;have g:(us++ds).length=ps.length:=by rw[<- b.length];exact F.len _ _ _ _ h
 refine wpAny_call (codeAny_mono (F.run X.A X.stack s H ⟨us,[]⟩ (us++ds) (vs++dvs) Q E hr I.env0 (hb s us I.kIn g) b h) λr c a=>?_);cases r with
 |error e=>exact hx pins σ H s e c I a
 |ok fl=>
  cases fl with
  |ret u=>exact I.after a
  |next=>exact False.elim a
  |brk=>exact False.elim a
  |cont=>exact False.elim a
theorem yw(F:bj X.prog X.w X.K X.mg X.base CX k f fd ps sp)(hr:cQ k X.A)(hg:Gl X x)(hm:X.mg x=some (.ref f))(hk:PySem.W.keepIn X.K (.ref f)=true)(hb:dO X.K fd ps ds)(hd:bh dvs ds)(hx:dC CX X E)
  (ha:PA X (e::es) t) (hdb:autoParam g⁻¹ zz1._auto_1) (he:autoParam (starEach (e::es) X.env=(false,eval e X.env)::starEach es X.env) zz0._auto_1) (hpl:autoParam e⁻¹ zz0._auto_1) :
  PE X (.Call (.Name x p) (e::es) [] pos) (kZ sp dvs E t):=by
 intro a s σ H Q I h;refine wpAny_Call_Name_kw (oa I hg hm ?_ hdb);refine PySem.W.callWith_K (h₀:=X.base) I.ok.mod.kin hk (ci (ha pos a s σ H _ I h) λus s1 ⟨vs,H1,b,r,q⟩=>⟨b.kIn,?_⟩) he hpl;exact mf F hr hb hd hx b r q
theorem Dq{pl:Sem Bool}(he:PE X o ta)(c:jA X.K C)(hm:iX X.K C m f)(F:bj X.prog X.w X.K X.mg X.base CX k f fd ps sp)(hr:cQ k X.A)(hb:dO X.K fd ps ds)(hd:bh dvs ds)(hx:dC CX X E)(ha:PA X (e::es) t)
  (hst:autoParam (starEach (e::es) X.env=(false,eval e X.env)::starEach es X.env) zz0._auto_1) (hpl:autoParam e⁻¹ zz0._auto_1)
  (ht:autoParam (eval (.Call (.Attribute o m apos) (e::es) [] pos) X.env=(do
   let ov <- eval o X.env
   standAt apos.atName
   let (f,first) <- holding [ov] (getMethod ov m pl)
   callWith pos f first (backTo pos (starEach (e::es) X.env)) (backToKw pos (keywordEach [] X.env)))) zz0._auto_1) :
  PE X (.Call (.Attribute o m apos) (e::es) [] pos) (rV C m sp dvs E ta t):=by
 intro b s σ H Q I h;refine PySem.W.methodCall_KW (pl:=pl) (ci (he b s σ H _ I h) λu n ⟨x,H1,j,p,a,dx,fs,w,y,l,q⟩=>?_) ht;subst w;obtain rfl:u=Value.ref a:=p;refine fW j y c hm l ?_;refine PySem.W.callWith_K (first:=[.ref a]) (h₀:=X.base) I.ok.mod.kin hm.kp (ci (ha pos b n σ H1 _ j q) λus s2 ⟨vs,H2,g,r,v⟩=>⟨g.kIn,?_⟩) hst hpl;exact mf (us:=.ref a::us) (vs:=.ref a::vs) F hr hb hd hx g (.cons rfl r) v
theorem Cm{pl:Sem Bool}(he:PE X o ta)(c:jA X.K C)(hm:iX X.K C m f)(F:bj X.prog X.w X.K X.mg X.base CX k f fd ps sp)(hr:cQ k X.A)(hb:dO X.K fd ps ds)(hd:bh dvs ds)(hx:dC CX X E)
  (ht:autoParam (eval (.Call (.Attribute o m apos) [] [] pos) X.env=(do
   let ov <- eval o X.env
   standAt apos.atName
   let (f,first) <- holding [ov] (getMethod ov m pl)
   callWith pos f first (backTo pos (starEach [] X.env)) (backToKw pos (keywordEach [] X.env)))) zz0._auto_1) :
  PE X (.Call (.Attribute o m apos) [] [] pos) (rV C m sp dvs E ta oN):=by
 intro b s σ H Q I h;refine PySem.W.methodCall_KW (pl:=pl) (ci (he b s σ H _ I h) λu s1 ⟨x,H1,e,g,a,dx,fs,j,n,l,q⟩=>?_) ht;subst j;obtain rfl:u=Value.ref a:=g;refine fW e n c hm l ?_;exact PySem.W.callWith_K0 (first:=[.ref a]) e.kIn hm.kp (mf (us:=[.ref a]) (vs:=[.ref a]) F hr hb hd hx e (.cons rfl .nil) q)
structure Mk(K:LM)(C f:Addr):Prop where
 makes:PySem.W.makesIn K C=true
 init:PySem.W.findIn K (.ref C) "__init__"=some (some (.ref f))
 fn:PySem.W.isFn K (.ref f)=true
 kp:PySem.W.keepIn K (.ref C)=true
theorem Bg{pins:LN}{σ:St}{Q:VK}(M:Mk X.K C f)(F:bj X.prog X.w X.K X.mg X.base CX k f fd ps sp)(hr:cQ (k+1) X.A)(hb:dO X.K fd ps ds)(hd:bh dvs ds)
  (hx:dC CX X E) (I:Inv X pins σ H s) (r:bh vs us)
  (h:∀x dx,H x=none->H dx=none->dx≠x->sp (.ref x::(vs++dvs)) (aD (aD H dx (.own x)) x (.ins C dx [])) (λv H2=>v=.non/\Q (.ref x) H2) E) :
  wpAny d⁻¹ X.A (call (.ref C) us) (EP X pins σ Q) X.xe s:=by
 have g:=h (s.heap.objs.size+1) s.heap.objs.size (I.hok.fresh (Nat.le_succ _)) (I.hok.fresh (Lb _)) (K9 (Ll _));have b:=Inv.made (C:=C) I;have c:bh (V.ref (s.heap.objs.size+1)::(vs++dvs)) (Value.ref (s.heap.objs.size+1)::(us++ds)):=.cons rfl (r.append hd);have n:(Value.ref (s.heap.objs.size+1)::us++ds).length=ps.length:=by
  have e:=c.length;rw[F.len _ _ _ _ g]at e;exact e.symm
 refine wpAny_call (AE (f:=f) I.kIn M.makes M.init (beq_iff_eq.mp M.fn) (codeAny_mono (F.run _ X.stack _ _ ⟨Value.ref (s.heap.objs.size+1)::us,[]⟩ (Value.ref (s.heap.objs.size+1)::(us++ds)) _ _ E (hr.make C us [])
  (b.env0.make C us []) (hb _ (Value.ref (s.heap.objs.size+1)::us) b.kIn n) c g) λr j a=>?_))
 cases r with
 |error e=>exact hx pins σ _ _ e j b a
 |ok fl=>
  cases fl with
  |ret u=>
   obtain⟨v,q,p,l,o,m⟩:=b.after a;subst o;exact⟨l,⟨V.ref (s.heap.objs.size+1),q,p,rfl,m⟩⟩
  |next=>exact False.elim a
  |brk=>exact False.elim a
  |cont=>exact False.elim a
theorem Dw(M:Mk X.K C f)(F:bj X.prog X.w X.K X.mg X.base CX k f fd ps sp)(hr:cQ (k+1) X.A)(hg:Gl X x)(hm:X.mg x=some (.ref C))(hb:dO X.K fd ps ds)(hd:bh dvs ds)(hx:dC CX X E)
  (ha:PA X (e::es) t) (hdb:autoParam g⁻¹ zz1._auto_1) (he:autoParam (starEach (e::es) X.env=(false,eval e X.env)::starEach es X.env) zz0._auto_1) (hpl:autoParam e⁻¹ zz0._auto_1) :
  PE X (.Call (.Name x p) (e::es) [] pos) (yu C sp dvs E t):=by
 intro a s σ H Q I h;refine wpAny_Call_Name_kw (oa I hg hm ?_ hdb);refine PySem.W.callWith_K (h₀:=X.base) I.ok.mod.kin M.kp (ci (ha pos a s σ H _ I h) λus s1 ⟨vs,H1,b,r,q⟩=>⟨b.kIn,?_⟩) he hpl;exact Bg M F hr hb hd hx b r q
end
def PK(X:Cx)(kws:List Keyword)(t:TA):Prop:=
 ∀(pos:Pos) (pins:LN) (s:LP) (σ:St) (H:Hp) (Q:List V->Hp->Prop),Inv X pins σ H s->t σ H Q->wpAny d⁻¹ X.A (evalAll ((backToKw pos (keywordEach kws X.env)).map (·.2))) (AP X pins σ Q) X.xe s
section
variable {X:Cx}{CX:j9}{k:Nat}{f C:Addr}{fd:LU}{ps ks:LW}{sp:Sp}{E:XK}{x m:Str}{p pos apos kpos:Pos}{e o:Expr}{es:L3}{kws:List Keyword}{te ta:TE}{t tk:TA}{nm:Option Str}
theorem EQ:PK X [] oN:=λ_ _ _ _ H Q I h=>wpAny_evalAll_nil ⟨[],H,I,.nil,h⟩
theorem DR(ha:PE X e te)(hr:PK X kws t):PK X (⟨nm,e,kpos⟩::kws) (ke te t):=by
 intro b a s σ H Q I h;show wpAny _ _ (evalAll ((do let v <- eval e X.env;standAt b;pure v)::(backToKw b (keywordEach kws X.env)).map (·.2))) _ _ s;refine wpAny_evalAll_cons (q04 (ci (ha a s σ H _ I h) λu g ⟨x,H1,o,k,m⟩=>q04 (wpAny_standAt (q05 ?_))));exact ci (hr b a g σ H1 _ o m) λus s2 ⟨c,H2,n,j,l⟩=>⟨x::c,H2,n,.cons k j,l⟩
variable {g:List Value->List Value->List Value}{gV:List V->List V->List V}
end
structure aG(N P:LW)(sc:Scope):Prop where
 kind:sc.kind=.function
 co:sc.isCoroutine=false
 gen:sc.isGenerator=false
 nd:N.Nodup
 pre:N.take P.length=P
 par:∀x∈P,sc.names.lookup x=some .local\/sc.names.lookup x=some .cell
 nofree:∀y∈sc.names,y.2≠.free
theorem rp{kindOf:Str->Option NameKind}{x:Str}:∀{binds:List (Str×Value)} {m:LS},(∀v,(x,v)∉binds)->bindL kindOf binds m x=m x
 | [],_,_=>rfl
 | (n,v)::r,m,h=>by
  unfold bindL;rw[rp λw hw=>h w (K6 _ hw)]
  split
  ·have:x≠n:=by rintro rfl;exact h v q0B
   simp[this]
  ·rfl
theorem rm{kindOf:Str->Option NameKind}{x:Str}:∀{binds:List (Str×Value)} {m:LS},(∀v,(x,v)∉binds)->bindC kindOf binds m x=m x
 | [],_,_=>rfl
 | (n,v)::r,m,h=>by
  unfold bindC;rw[rm λw hw=>h w (K6 _ hw)]
  split
  ·rfl
  ·have:x≠n:=by rintro rfl;exact h v q0B
   simp[this]
theorem rL{kindOf:Str->Option NameKind}{x:Str}{v:Value}:∀{P:LW} {vs:LQ} {i:Nat} {m:LS},P.Nodup->P[i]?=some x->vs[i]?=some v->kindOf x=some .local ->
  bindL kindOf (P.zip vs) m x=some v
 | [],_,_,_,_,h,_,_=>by simp at h
 |_::_,[],_,_,_,_,h,_=>by simp at h
 |p::P,w::vs,0,m,nd,h1,h2,hk=>by
  simp at h1 h2;subst h1;subst h2
  show bindL kindOf ((p,w)::P.zip vs) m p=_;unfold bindL;rw[rp λv hv=>(List.nodup_cons.mp nd).1 (List.of_mem_zip hv).1,q07 hk];simp
 |p::P,w::vs,i+1,m,nd,h1,h2,hk=>by
  show bindL kindOf ((p,w)::P.zip vs) m x=_;unfold bindL;exact rL (i:=i) (List.nodup_cons.mp nd).2 (by simpa using h1) (by simpa using h2) hk
theorem rn{kindOf:Str->Option NameKind}{x:Str}{v:Value}:∀{P:LW} {vs:LQ} {i:Nat} {m:LS},P.Nodup->P[i]?=some x->vs[i]?=some v->kindOf x≠some .local ->
  bindC kindOf (P.zip vs) m x=some v
 | [],_,_,_,_,h,_,_=>by simp at h
 |_::_,[],_,_,_,_,h,_=>by simp at h
 |p::P,w::vs,0,m,nd,h1,h2,hk=>by
  simp at h1 h2;subst h1;subst h2
  show bindC kindOf ((p,w)::P.zip vs) m p=_;unfold bindC;rw[rm λv hv=>(List.nodup_cons.mp nd).1 (List.of_mem_zip hv).1,q06 hk];simp
 |p::P,w::vs,i+1,m,nd,h1,h2,hk=>by
  show bindC kindOf ((p,w)::P.zip vs) m x=_;unfold bindC;exact rn (i:=i) (List.nodup_cons.mp nd).2 (by simpa using h1) (by simpa using h2) hk
def start(N:LW)(vs:List V):St:=vs.map some++List.replicate (N.length-vs.length) none
def tS(CX:j9)(P:LV)(w:LY)(K:LM)(mg:LS)(base:Heap)(N:LW)(qual:Str)(scope:Scope)(f:Addr)(cd:Value)(A:LX)(outer:List Env)(s:LP)(H:Hp)(E:XK):Cx where
 prog:=P
 w:=w
 K:=K
 mg:=mg
 base:=base
 A:=A.deeper (envOfC qual scope s.heap.objs.size f cd)
 N:=N
 s₀:=s
 H₀:=H
 env:=envOfC qual scope s.heap.objs.size f cd
 outer:=outer
 stack:=envOfC qual scope s.heap.objs.size f cd::outer
 ex:=[]
 calm:=true
 fn:=λ_=>true
 pn:=[]
 xe:=λe s'=>wpAny (model P w) (A.deeper (envOfC qual scope s.heap.objs.size f cd)) (leaving (envOfC qual scope s.heap.objs.size f cd) e) (λ_ s''=>CX outer H s E e s'') (λe' s''=>CX outer H s E e' s'') s'
theorem v8{sc:Scope}(h:sc.names.lookup x=some .cell):∃c,(cellsFrom n sc.names []).lookup x=some c:=by
 have q:=PySem.W.cellsFrom_some sc.names n [] (.inl h);exact Option.isSome_iff_exists.mp q
theorem Ad{CX:j9}{K:LM}{mg:LS}{base:Heap}{ps:LW}{qual:Str}{scope:Scope}{f:Addr}{cd:Value}{A:LX}{outer:List Env}{s1:LP}{vs:List V}
  (S:aG N ps scope) (hd:A.handled=none) (e0:pT P w K mg base A outer s H) (hl:vs.length=ps.length) (r:bh vs us)
  (x:InCallC s s.heap.objs.size (bindL (envOfC qual scope s.heap.objs.size f cd).kindOf (ps.zip us) λ_=>none) (cellsFrom (s.heap.objs.size+1) scope.names []) (bindC (envOfC qual scope s.heap.objs.size f cd).kindOf (ps.zip us) λ_=>none) s1) :
  Inv (tS CX P w K mg base N qual scope f cd A outer s H E) [] (start N vs) H s1:=by
 have hpl:ps.length<=N.length:=by have:=q0R List.length S.pre;rw[Lq]at this;omega
 obtain⟨h1,tk,rfl,B⟩:=x.done;have g:∀b:Addr,b∉(tS CX P w K mg base N qual scope f cd A outer s H E).ex:=λb z=>q0Q (show b∈([]:List Addr) from z) (by simp);refine⟨⟨e0.mod,S.kind,rfl,rfl,Lb _,λy z c h1 h2=>?_,λy hy=>?_,λy c _ h=>?_,λ_=>hd,Around.frames_deeper e0.frames,.inr ⟨rfl,rfl⟩,λb z=>q0Q z (g b),e0.bs,e0.bsz,λb _ _=>g b,λb z=>q0Q z (g b),e0.funs,e0.frf⟩,
  rfl,e0.bare,Un.kept B,⟨_,x.toInCall.ns,λi y v h1 h2 h3=>?_⟩,λy c h=>⟨_,x.cell y c h⟩,e0.hok.fresh (Lb _),λy c h=>?_,λp l=>q0Q (show p∈([]:List (Addr×Obj)) from l) (by simp),e0.hok.kept B,?_⟩
 ·exact name_of_addr x.apart (PySem.mem_of_lookup h1) (PySem.mem_of_lookup h2)
 ·have hy:scope.names.lookup y=some .cell\/scope.names.lookup y=some .free:=hy
  rcases hy with hy | hy
  ·exact v8 hy
  ·exact q0Q rfl (S.nofree _ (PySem.mem_of_lookup hy))
 ·exact q0P (x.above y c (PySem.mem_of_lookup h))
 ·have m:i<vs.length:=by
   unfold start at h2
   by_cases m:i<vs.length
   ·exact m
   ·rw[K_ (by simpa using m)]at h2
    rw[List.getElem?_replicate]at h2
    split at h2<;>cases h2
  have D:vs[i]?=some v:=by
   unfold start at h2;rw[K' (by simpa using m),KQ]at h2;cases e:vs[i]? with
   |none=>rw[e]at h2;cases h2
   |some a=>rw[e]at h2;cases h2;rfl
  obtain⟨u,o,C⟩:=r.get D;have l:ps[i]?=some y:=by
   rw[<- S.pre,List.getElem?_take_of_lt ⋯];exact h1
  have j:ps.Nodup:=by rw[<- S.pre];exact S.nd.sublist (List.take_sublist _ _)
  refine⟨u,C,?_⟩;rcases S.par y (KR l) with k | k
  ·exact .inl ⟨k,rL j l o k⟩
  ·obtain⟨c,e⟩:=v8 (n:=s.heap.objs.size+1) k
   refine .inr ⟨.inl k,c,e,?_⟩;have q:=x.cell y c e;rw[rn j l o (by show scope.names.lookup y≠_;rw[k];decide)]at q;exact q
 ·exact e0.hok.fresh (q0P (x.above y c (PySem.mem_of_lookup h)))
 ·unfold start
  show _=N.length;rw[La,KO,List.length_replicate];omega
theorem En{CX:j9}{K:LM}{mg:LS}{base:Heap}{f:Addr}{name qual:Str}{params:Arguments}{body:List Stmt}{scope:Scope}{dV kV doc pm cdv ct oc:Value}{an od:LZ}
  {osl:Array (Option Value)}{ps:LW} {sp:Sp} (lk:K.lookup f=some ⟨oc,od,.func (PySem.W.fnOf name qual params body scope dV kV doc pm an cdv ct),osl⟩) (hcd:PySem.W.codeIn K cdv qual=true) (S:aG N ps scope)
  (len:∀vs H Q E,sp vs H Q E->vs.length=ps.length)
  (hbody:∀(A:LX) (outer:List Env) (s:LP) (H:Hp) (vs:List V) (Q:VK) (E:XK),cQ k (A.deeper (envOfC qual scope s.heap.objs.size f cdv))->sp vs H Q E ->
   ∃t,wg (tS CX P w K mg base N qual scope f cdv A outer s H E) body t/\t {nx:=λ_ H'=>Q .non H',rt:=Q} (start N vs) H) :
  bj P w K mg base CX (k+1) f (PySem.W.fnOf name qual params body scope dV kV doc pm an cdv ct) ps sp:=by
 refine⟨len,λA outer s H args C vs Q E hr j R r g=>?_⟩;have M:=len _ _ _ _ g;have B:K.In s.heap:=j.mod.kin.keeps λb o e=>(j.bs b o e).1;have p:s.heap.NoLimit:=j.mod.nolimit.keeps λb o e=>(j.bs b o e).1;have a:∀y∈ps.zip C,scope.names.lookup y.1=some .local\/(scope.names.lookup y.1=some .cell/\((cellsFrom (s.heap.objs.size+1) scope.names []).lookup y.1).isSome=true):=λ⟨n,v⟩ D=>by
  rcases S.par n (List.of_mem_zip D).1 with q | q
  ·exact .inl q
  ·exact .inr ⟨q,PySem.W.cellsFrom_some _ _ _ (.inl q)⟩
 refine codeAny_call_function hr.depth (B _ _ lk) rfl S.co S.gen rfl (PySem.W.codeRec_of B hcd) (R _ _ _ _ ?_);refine wpAny_newFunctionEnv_cells S.kind a λenv O z x=>?_;subst O;refine⟨p.keeps x.toInCall.keep,codeAny_func ?_⟩;obtain⟨t,G,L⟩:=hbody A outer s H vs Q E (hr.deeper _) g;have I:Inv (tS CX P w K mg base N qual scope f cdv A outer s H E) [] (start N vs) H z:=Ad S hr.hd j M r x;refine q0X (G [] z (start N vs) H _ I L) (λT l c=>?_) λe l c=>c;have fin:∀{σ':St} {H':Hp} {v:V} {u:Value},Inv (tS CX P w K mg base N qual scope f cdv A outer s H E) [] σ' H' l->bG v u->Q v H'->CE outer P w H s Q u l:=
  fun{σ' H' v u} J m q=>⟨v,H',J.os,J.bare,J.base,J.hok,m,q⟩
 cases T with
 |ret u=>
  obtain⟨v,σ',H',J,m,q⟩:=c;exact fin J m q
 |next=>
  obtain⟨σ',H',J,q⟩:=c;exact fin (v:=V.non) (u:=Value.none) J rfl q
 |brk=>
  obtain⟨_,_,_,q⟩:=c;exact False.elim q
 |cont=>
  obtain⟨_,_,_,q⟩:=c;exact False.elim q
section
variable {X:Cx}{x:Str}{p pos:Pos}{e:Expr}{es:L3}{t:TA}{id T:String}{r:List V->Hp->VK->Prop}
def G7(r:List V->Hp->VK->Prop)(t:TA):TE:=λσ H Q=>t σ H λvs H1=>r vs H1 Q
theorem aE(hc:g7 X (.builtin id) r)(hg:Gl X x)(hm:X.mg x=none)(hv:bootBuiltins x=some (.builtin id))(ha:PA X (e::es) t)(hn:autoParam (x≠"__name__") zz1._auto_1)(hdb:autoParam g⁻¹ zz1._auto_1)
  (he:autoParam (starEach (e::es) X.env=(false,eval e X.env)::starEach es X.env) zz0._auto_1) (hpl:autoParam e⁻¹ zz0._auto_1):PE X (.Call (.Name x p) (e::es) [] pos) (G7 r t):=by
 intro a s σ H Q I h;refine wpAny_Call_Name_kw (fc I hg hm hv ?_ hn hdb);exact PyProof.Rows.callWith_builtin1 (ci (ha pos a s σ H _ I h) λus b ⟨vs,H1,j,c,g⟩=>hc a b σ H1 vs us Q j c g) he hpl
theorem c5(hc:g7 X (.type T) r)(hg:Gl X x)(hm:X.mg x=none)(hv:bootBuiltins x=some (.type T))(ha:PA X (e::es) t)(hn:autoParam (x≠"__name__") zz1._auto_1)(hdb:autoParam g⁻¹ zz1._auto_1)
  (he:autoParam (starEach (e::es) X.env=(false,eval e X.env)::starEach es X.env) zz0._auto_1) (hpl:autoParam e⁻¹ zz0._auto_1):PE X (.Call (.Name x p) (e::es) [] pos) (G7 r t):=by
 intro a s σ H Q I h;refine wpAny_Call_Name_kw (fc I hg hm hv ?_ hn hdb);exact PyProof.Rows.callWith_type1 (ci (ha pos a s σ H _ I h) λus b ⟨vs,H1,j,c,g⟩=>hc a b σ H1 vs us Q j c g) he hpl
end
end L2
namespace HT
open PySem PyProof.Rows
section
variable {prog:LV}{w:LY}{A:LX}{E:LL}{s:LP}
theorem cat_tup{t:Addr}{vs ws:LQ}{Q:LL}(ht:IsTup s.heap t vs.toArray)(hb:IsTup s.heap b ws.toArray)(hv:vs≠[])
  (h1:ws=[]->Q (.ref t) s) (h2:ws≠[]->Q (.ref s.heap.objs.size) {s with heap:=s.heap.push {cls:=.type "tuple",data:=.seq (vs++ws).toArray} })
  (hsz:vs.length+ws.length<=sizeLine):wpAny c⁻¹ A (binaryOp .Add (.ref t) (.ref b)) Q E s:=by
 obtain⟨⟨cls,u,data,o⟩,m,r,n,q⟩:=id ht;obtain⟨⟨cls2,k,data2,c⟩,a,j,p,g⟩:=id hb;simp only at r q j g;subst r q j g;have e:vs.toArray++ws.toArray=(vs++ws).toArray:=by simp
 by_cases l:ws=[]
 ·exact concat_meets ⟨_,m,rfl⟩ ⟨_,a,rfl⟩ noFill_tuple_add seq_tuple_add PySem.F.slot_tuple_add PySem.F.entry_tuple_add (PySem.F.args_tuple_add_2 _ _)
   (tuple_addW1 t b vs.toArray ws.toArray n p u k o c (by simpa using hv) (by simp[l])) ⟨m,a,h1 l⟩
 ·refine concat_meets ⟨_,m,rfl⟩ ⟨_,a,rfl⟩ noFill_tuple_add seq_tuple_add PySem.F.slot_tuple_add PySem.F.entry_tuple_add (PySem.F.args_tuple_add_2 _ _)
   (tuple_addW2 t b vs.toArray ws.toArray n p u k o c (by simpa using hv) (by simpa using l) (by rw[KW,KW];exact hsz)) ⟨m,a,?_⟩
  rw[e];exact h2 l
def sIx(n d:Nat):Option Int->Nat
 |none=>d
 |some v=>if v<0 then(v+(n:Int)).toNat else min v.toNat n
theorem sIx_nat(n d k:Nat):sIx n d (some (k:Int))=min k n:=by
 show(if(k:Int)<0 then((k:Int)+(n:Int)).toNat else min (k:Int).toNat n)=min k n;rw[q06 ⋯,KZ]
theorem sIx_le(n d:Nat)(hd:d<=n)(o:Option Int):sIx n d o<=n:=by
 cases o with
 |none=>exact hd
 |some v=>
  show(if v<0 then(v+(n:Int)).toNat else min v.toNat n)<=n
  by_cases a:v<0
  ·rw[q07 a];omega
  ·rw[q06 a];exact Nat.min_le_right _ _
end
end HT
namespace L2
open PySem PySem.Spec PyProof.Rows
abbrev TO:=St->Hp->(Option Int->Hp->Prop)->Prop
def PO(X:Cx)(e:Option Expr)(t:TO):Prop:=
 ∀(pins:LN) (s:LP) (σ:St) (H:Hp) (Q:Option Int->Hp->Prop),Inv X pins σ H s->t σ H Q ->
  wpAny d⁻¹ X.A (evalPart e X.env) (λu s'=>∃o H',Inv X pins σ H' s'/\IsPart u o/\Q o H') X.xe s
def tf:TO:=λ_ H Q=>Q none H
def Bj(t:TE):TO:=λσ H Q=>t σ H λx H1=>∃i,x=.int i/\Q (some i) H1
section
variable {X:Cx}{e:Expr}{te:TE}{lo hi:Option Expr}{tl th:TO}{pos p2:Pos}
theorem jF:PO X none tf:=by
 intro pins s σ H Q I h;rw[evalPart_none];exact q05 ⟨none,H,I,.none,h⟩
theorem eO(h:PE X e te):PO X (some e) (Bj te):=by
 intro a s σ H Q I hw;rw[evalPart_some];refine ci (h a s σ H _ I hw) λu s1 ⟨x,H1,g,b,c⟩=>?_;obtain⟨i,rfl,q⟩:=c;obtain⟨t,rfl⟩:=b;exact⟨some i,H1,g,.int i t,q⟩
def HS(X:Cx)(r:V->Option Int->Option Int->Hp->VK->Prop):Prop:=
 ∀(pins:LN) (s:LP) (σ:St) (H:Hp) (x:V) (v vl vu:Value) (lo hi:Option Int) (sl:Addr) (Q:VK),Inv X pins σ H s->bG x v->s.heap.IsSliceOf sl vl vu .none->IsPart vl lo->IsPart vu hi->r x lo hi H Q ->
  ∃T id,typeLookup (.type T) "__getitem__"=pure (some (.builtin id))/\s.TypeIs v T/\wpAny d⁻¹ X.A (getItem v (.ref sl)) (EP X pins σ Q) X.xe s
def Hq(r:V->Option Int->Option Int->Hp->VK->Prop)(te:TE)(tl th:TO):TE:=λσ H Q=>te σ H λx H1=>tl σ H1 λl H2=>th σ H2 λu H3=>r x l u H3 Q
theorem eV(hr:HS X r)(he:PE X e te)(hl:PO X lo tl)(hu:PO X hi th):PE X (.Subscript e (.Slice lo hi none p2) pos) (Hq r te tl th):=by
 intro a s σ H Q I h;refine Subscript_ (ci (he a s σ H _ I h) λv k ⟨x,H1,M,m,p⟩=>?_);refine wpAny_Slice (ci (hl a k σ H1 _ M p) λvl j ⟨l,H2,L,z,o⟩=>ci (hu a j σ H2 _ L o) λvu c ⟨u,g,J,y,n⟩=>?_);rw[evalPart_none];refine q05 ?_;have G:Inv X a σ g {c with heap:=c.heap.push {cls:=.type "slice",data:=.fields #[vl,vu,.none]} }:=J.kept (t':=c.toks) λb ob q=>KN _ q;obtain⟨T,id,D,B,C⟩:=hr a {c with heap:=c.heap.push {cls:=.type "slice",data:=.fields #[vl,vu,.none]} } σ g x v vl vu l u c.heap.objs.size Q G m (Heap.IsSliceOf.new ..) z y n;show wpAny d⁻¹ X.A (subscriptTail e (.Slice lo hi none p2) v (.ref c.heap.objs.size)) (EP X a σ Q) X.xe {c with heap:=c.heap.push {cls:=.type "slice",data:=.fields #[vl,vu,.none]} };exact tail_any (ops:=[.ref c.heap.objs.size,v]) B D C (by with_unfolding_all rfl)
def qg(xs:List V)(lo hi:Option Int):List V:=(xs.drop (HT.sIx xs.length 0 lo)).take (HT.sIx xs.length xs.length hi-HT.sIx xs.length 0 lo)
theorem uX(xs:List V)(lo hi:Option Int):(qg xs lo hi).length<=xs.length:=by
 unfold qg;rw[Lq,Lr];omega
def EH(K:LM):R2:=λx y H Q=>∃a b xs ys,x=.ref a/\y=.ref b/\cR K H a xs/\cR K H b ys/\xs≠[]/\xs.length+ys.length<=sizeLine /\
 (ys=[]->Q (.ref a) H)/\(ys≠[]->∀p,H p=none->Q (.ref p) (aD H p (.tup (xs++ys))))
theorem bh.nil_iff(r:bh xs us):us=[]↔xs=[]:=by
 cases r with
 |nil=>simp
 |cons _ _=>simp
theorem Dd:bC X (binaryOp .Add) (EH X.K):=by
 intro pins s σ H x y v u Q I rx ry h;obtain⟨a,b,k,j,rfl,rfl,C,B,r,g,m,l⟩:=h;cases rx;cases ry;obtain⟨its,e,p,_⟩:=I.tuple C;obtain⟨its2,c,n,_⟩:=I.tuple B;refine HT.cat_tup p n (λz=>r (e.nil_iff.mp z)) (λz=>⟨.ref a,H,I,rfl,m (c.nil_iff.mp z)⟩) (λz=>?_) (by rw[<- e.length,<- c.length];exact g);refine⟨.ref s.heap.objs.size,_,I.laid (t':=s.toks) (o:=.tup (k++j)) (λb ob q=>KN _ q) (Lb _) ?_,rfl,l (λw=>z (c.nil_iff.mpr w)) _ (I.hok.fresh (Lb _))⟩;exact⟨by rw[La];exact g,_,e.append c,IsTup.new _ _⟩
end
def C_(n:Nat)(i:Int):Option Nat:=if 0<=i then(if i<n then some i.toNat else none) else if -(n:Int)<=i then some (i+n).toNat else none
def i6{α:Type}(xs:List α)(i:Int):Option α:=(C_ xs.length i).bind λj=>xs[j]?
theorem xX{n:Nat}{i:Int}{j:Nat}(h:C_ n i=some j):seqIndex? i n=some j/\j<n/\-(n:Int)<=i/\i<n:=by
 unfold C_ at h
 by_cases a:0<=i
 ·rw[q07 a]at h
  by_cases h1:i<n
  ·rw[q07 h1]at h
   have e:i.toNat=j:=q0S h;exact⟨by rw[seqIndex_of a h1,e],⋯,⋯,h1⟩
  ·rw[q06 h1]at h;cases h
 ·rw[q06 a]at h
  by_cases h1:-(n:Int)<=i
  ·rw[q07 h1]at h
   have e:(i+n).toNat=j:=q0S h;exact⟨by rw[seqIndex_neg ⋯ h1,e],⋯,h1,⋯⟩
  ·rw[q06 h1]at h;cases h
theorem sU{α:Type}{xs:List α}{i:Int}{v:α}(h:i6 xs i=some v):∃j,seqIndex? i xs.length=some j/\xs[j]?=some v/\j<xs.length/\-(xs.length:Int)<=i/\i<xs.length:=by
 unfold i6 at h;cases e:C_ xs.length i with
 |none=>rw[e]at h;cases h
 |some j=>
  rw[e]at h;obtain⟨h1,h2,b,a⟩:=xX e;exact⟨j,h1,h,h2,b,a⟩
theorem bo{α:Type}{xs:List α}{j:Nat}{v:α}(h:xs[j]?=some v):i6 xs (j:Int)=some v:=by
 have hj:j<xs.length:=(KM.mp h).1;have e:C_ xs.length (j:Int)=some j:=by
  unfold C_;rw[q07 ⋯,q07 ⋯];simp
 unfold i6;rw[e];exact h
def Df(b:Expr):Prop:=∀o i,subscripted b false o i=operate [o,i] (getItem o i)
def FZ(X:Cx)(r:R2):Prop:=
 ∀(value slice:Expr) (pins:LN) (s:LP) (σ:St) (H:Hp) (x y:V) (v u:Value) (Q:VK),Inv X pins σ H s->bG x v->bG y u->r x y H Q ->
  subscripted slice false v u=operate [v,u] (getItem v u)->wpAny d⁻¹ X.A (subscriptTail value slice v u) (EP X pins σ Q) X.xe s
def Gx(X:Cx)(id:String)(r:V->List V->Hp->VK->Prop):Prop:=
 ∀(pins:LN) (s:LP) (σ:St) (H:Hp) (x:V) (xs:List V) (v:Value) (us:LQ) (Q:VK),Inv X pins σ H s->bG x v->bh xs us->r x xs H Q ->
  wpAny d⁻¹ X.A (call (.builtin id) (v::us)) (EP X pins σ Q) X.xe s
section
variable {X:Cx}{a b:Expr}{ta tb:TE}{pos:Pos}
theorem aP(hr:FZ X r)(ha:PE X a ta)(hb:PE X b tb)(hs:Df b):PE X (.Subscript a b pos) (ET r ta tb):=by
 intro c s σ H Q I h;exact Subscript_ (Fl ha hb I h λv u e x y H2 k j g q=>hr a b c e σ H2 x y v u Q k j g q (hs _ _))
def AN(K:LM):R2:=λx y H Q=>∃p xs i v,x=.ref p/\y=.int i/\aQ K H p xs/\i6 xs i=some v/\Q v H
def Bc(K:LM):R2:=λx y H Q=>∃p xs i v,x=.ref p/\y=.int i/\cR K H p xs/\i6 xs i=some v/\Q v H
def Fy:R2:=λx y H Q=>∃z i c,x=.str z/\y=.int i/\z.length<=sizeLine/\i6 z.cps.toList i=some c/\Q (.str ⟨#[c]⟩) H
theorem yc:FZ X (AN X.K):=by
 intro value slice a s σ H x y v u Q I rx ry h hs;obtain⟨p,xs,i,z,rfl,rfl,n,B,q⟩:=h;cases rx;obtain⟨t,rfl⟩:=ry;obtain⟨e,r,c,hz⟩:=I.list n;obtain⟨j,h1,h2,h3,D,C⟩:=sU B;obtain⟨w,l,b⟩:=r.get h2;have o:=r.length;have hn:=mM;have fin:EP X a σ Q w s:=⟨z,H,I,b,q⟩
 by_cases k:0<=i
 ·have g:i.toNat=j:=by
   rw[seqIndex_of k C]at h1;exact q0S h1
  exact item_listR c.isList k ⋯ (by rw[g];simpa using l) fin hs
 ·have g:(i+(e.toArray.size:Int)).toNat=j:=by
   rw[seqIndex_neg ⋯ D]at h1;rw[KW,<- o];exact q0S h1
  exact subscriptTail_builtinR (x:=w) c.isList.typeIs slot_list_getitem.lookup
   (wpAny_getItem_list_neg (Q:=λr m=>r=w/\EP X a σ Q r m) c.isList ⋯ (by rw[KW]<;>omega) ⋯ (by rw[g];simpa using l) ⟨rfl,fin⟩) hs
theorem EN:FZ X (Bc X.K):=by
 intro value slice a s σ H x y v u Q I rx ry h hs;obtain⟨p,xs,i,z,rfl,rfl,g,l,q⟩:=h;cases rx;obtain⟨t,rfl⟩:=ry;obtain⟨its,r,c,hz⟩:=I.tuple g;obtain⟨j,h1,h2,h3,h4,h5⟩:=sU l;obtain⟨w,m,b⟩:=r.get h2;have k:=r.length;have hn:=mM;have fin:EP X a σ Q w s:=⟨z,H,I,b,q⟩;exact subscriptTail_builtinR (x:=w) c.typeIs slot_tuple_getitem.lookup
  (getItem_tuple (j:=j) (Q:=λr e=>r=w/\EP X a σ Q r e) c ⋯ ⋯ (by rw[KW,<- k];exact h1) (by simpa using m) ⟨rfl,fin⟩) hs
theorem o9:FZ X Fy:=by
 intro value slice pins s σ H x y v u Q I rx ry h hs;obtain⟨z,i,c,rfl,rfl,hz,b,q⟩:=h;obtain⟨t,rfl⟩:=rx;obtain⟨t',rfl⟩:=ry;obtain⟨j,h1,h2,h3,g,e⟩:=sU b;have a:z.cps.toList.length=z.length:=by simp[Str.length]
 rw[a]at h1 g e;have hn:=mM;exact tail_any (typeIs_str s z t) slot_str_getitem.lookup (getItem_str (c:=c) (by
  have l:decide (i < -(2 ^ 63:Int))=false:=q08 ⋯;have k:decide (i≥2 ^ 63)=false:=q08 ⋯;rw[l,k,Bool.or_false]) (by rw[h1];simpa using h2) ⟨.str ⟨#[c]⟩,H,I.tok _,⟨_,rfl⟩,q⟩) hs
theorem wT(its:LQ)(n j:Nat)(u:Value):Obj.mapSeq (·.setIfInBounds j u) {cls:=.type "list",data:=.seq its.toArray n}={cls:=.type "list",data:=.seq (its.set j u).toArray n}:=by
 simp[Obj.mapSeq]
theorem Inv.lst{pins:LN}{σ:St}{H:Hp}{s:LP}{p:Addr}{xs:List V}(I:Inv X pins σ H s)(h:H p=some (.lst xs)) :
  ∃(its:LQ) (n:Nat),bh xs its/\s.heap.get? p=some {cls:=.type "list",data:=.seq its.toArray n}/\xs.length<=sizeLine:=by
 obtain⟨z,its,n,r,e⟩:=I.hok p _ h;exact⟨its,n,r,e,z⟩
theorem Inv.lstUpd{pins:LN}{σ:St}{s:LP}{its its':LQ}{f:Obj->Obj}(I:Inv X pins σ H s)(h:H p=some (.lst xs))
  (ho:s.heap.get? p=some {cls:=.type "list",data:=.seq its.toArray n}) (hf:f {cls:=.type "list",data:=.seq its.toArray n}={cls:=.type "list",data:=.seq its'.toArray n' }) (r:bh ys its') (hz:ys.length<=sizeLine) (t:Nat) :
  Inv X pins σ (aD H p (.lst ys)) {s with heap:=s.heap.update p f,toks:=t}:=by
 have e:(s.heap.update p f).get? p=some {cls:=.type "list",data:=.seq its'.toArray n' }:=by
  rw[K0 f ho (by rw[hf]<;>rfl),hf]
 refine I.write (x:=p) (e:=p) (by rw[h];trivial) (.inl rfl) (λb u a q=>(KS _ _ (Ne.symm a)).trans q) ⟨_,e⟩ ?_;exact⟨hz,its',n',r,e⟩
def Cj:V->V->V->Hp->(Hp->Prop)->Prop:=λo i v H Q=>∃p xs k j,o=.ref p/\i=.int k/\H p=some (.lst xs)/\C_ xs.length k=some j/\Q (aD H p (.lst (xs.set j v)))
theorem Bp:GH X Cj:=by
 intro a s σ H o i v ov iv u Q I ro ri rv h;obtain⟨p,z,k,j,rfl,rfl,l,C,q⟩:=h;cases ro;obtain⟨t,rfl⟩:=ri;obtain⟨b,n,r,c,B⟩:=I.lst l;obtain⟨h1,h2,w,m⟩:=xX C;have e:=r.length;have hn:=mM;have y:Inv X a σ (aD H p (.lst (z.set j v))) {s with heap:=s.heap.update p (Obj.mapSeq (·.setIfInBounds j u))}:=
  I.lstUpd l c (wT b n j u) (r.set rv j) (by rw[LD];exact B) s.toks
 by_cases x:0<=k
 ·have g:k.toNat=j:=by
   rw[seqIndex_of x m]at h1;exact q0S h1
  exact PySem.W.ki_setAt c x ⋯ (by rw[KW,<- e];exact m) (by rw[g];exact⟨_,y,q⟩)
 ·have g:(k+(b.toArray.size:Int)).toNat=j:=by
   rw[seqIndex_neg ⋯ w]at h1;rw[KW,<- e];exact q0S h1
  exact PySem.W.ki_setBack c ⋯ (by rw[KW,<- e];exact w) ⋯ (by rw[g];exact⟨_,y,q⟩)
theorem sZ(lo hi:Option Int)(n:Nat):(sliceBounds lo hi none n).1=((HT.sIx n 0 lo:Nat):Int)/\(sliceBounds lo hi none n).2.1=((HT.sIx n n hi:Nat):Int)/\(sliceBounds lo hi none n).2.2=1:=by
 refine⟨?_,?_,rfl⟩
 ·cases lo with
  |none=>simp[sliceBounds,HT.sIx]
  |some i=>
   simp only[sliceBounds,HT.sIx,Option.getD_none,show(1:Int)>0 by decide,if_true]
   by_cases h:i<0
   ·simp only[h,if_true]<;>omega
   ·simp only[h,if_false]<;>omega
 ·cases hi with
  |none=>simp[sliceBounds,HT.sIx]
  |some i=>
   simp only[sliceBounds,HT.sIx,Option.getD_none,show(1:Int)>0 by decide,if_true]
   by_cases h:i<0
   ·simp only[h,if_true]<;>omega
   ·simp only[h,if_false]<;>omega
theorem qJ(its:LQ)(lo hi:Option Int):slicePick its.toArray lo hi none=((its.drop (HT.sIx its.length 0 lo)).take (HT.sIx its.length its.length hi-HT.sIx its.length 0 lo)).toArray:=by
 obtain⟨h1,h2,a⟩:=sZ lo hi its.toArray.size;unfold slicePick;rw[h1,h2,a];simp only[sliceRange_one,pick_run,KW]<;>rfl
def Fb(K:LM):V->Option Int->Option Int->Hp->VK->Prop:=λx lo hi H Q=>∃a xs,x=.ref a/\aQ K H a xs/\∀p,H p=none->Q (.ref p) (aD H p (.lst (qg xs lo hi)))
theorem tW:HS X (Fb X.K):=by
 intro pins s σ H x v vl vu lo hi sl Q I rx hs pl pu h;obtain⟨a,c,rfl,k,q⟩:=h;cases rx;obtain⟨its,r,g,j⟩:=I.list k;have e:=r.length;refine⟨"list",_,slot_list_getitem.lookup,g.isList.typeIs,?_⟩;refine wpAny_getItem_list_slice g.isList hs pl pu .none (by simp) ?_ (by rw[KW]<;>omega);rw[qJ,<- e];refine⟨.ref s.heap.objs.size,_,I.laid (t':=s.toks) (o:=.lst (qg c lo hi)) (λb ob q=>KN _ q) (Lb _) ?_,rfl,q _ (I.hok.fresh (Lb _))⟩;exact⟨Lj (uX c lo hi) j,_,0,(r.drop (HT.sIx c.length 0 lo)).take (HT.sIx c.length c.length hi-HT.sIx c.length 0 lo),KU _ rfl⟩
def BA:V->Bool
 | .non=>true
 | .bl _=>true
 | .int _=>true
 | .str _=>true
 |_=>false
def Eu:V->V->Bool
 | .non,.non=>true
 | .bl a,.bl b=>a==b
 | .bl a,.int b=>(if a then 1 else 0)==b
 | .int a,.bl b=>a==(if b then 1 else 0)
 | .int a,.int b=>a==b
 | .str a,.str b=>a==b
 |_,_=>false
theorem iJ(ry:bG y u)(rx:bG x v)(fy:BA y=true)(fx:BA x=true):SeqAt.EqAt A s u v (Eu y x):=by
 cases y with
 |non=>
  cases ry;cases x with
  |non=>cases rx;exact SeqAt.EqAt.same _
  |bl b=>cases rx;exact SeqAt.EqAt.none_bool b
  |int b=>obtain⟨t,rfl⟩:=rx;exact SeqAt.EqAt.none_int b t
  |str b=>obtain⟨t,rfl⟩:=rx;exact SeqAt.EqAt.none_str b t
  |_=>exact q0Q (show false=true from fx) Ld
 |bl a=>
  cases ry;cases x with
  |non=>cases rx;exact SeqAt.EqAt.bool_none a
  |bl b=>cases rx;exact SeqAt.EqAt.bool_bool a b
  |int b=>obtain⟨t,rfl⟩:=rx;exact SeqAt.EqAt.bool_int a b t
  |str b=>obtain⟨t,rfl⟩:=rx;exact SeqAt.EqAt.bool_str a b t
  |_=>exact q0Q (show false=true from fx) Ld
 |int a=>
  obtain⟨c,rfl⟩:=ry;cases x with
  |non=>cases rx;exact SeqAt.EqAt.int_none a c
  |bl b=>cases rx;exact SeqAt.EqAt.int_bool a c b
  |int b=>obtain⟨t,rfl⟩:=rx;exact SeqAt.EqAt.int_int a c b t
  |str b=>obtain⟨t,rfl⟩:=rx;exact SeqAt.EqAt.int_str a c b t
  |_=>exact q0Q (show false=true from fx) Ld
 |str a=>
  obtain⟨c,rfl⟩:=ry;cases x with
  |non=>cases rx;exact SeqAt.EqAt.str_none a c
  |bl b=>cases rx;exact SeqAt.EqAt.str_bool a c b
  |int b=>obtain⟨t,rfl⟩:=rx;exact SeqAt.EqAt.str_int a c b t
  |str b=>obtain⟨t,rfl⟩:=rx;exact SeqAt.EqAt.str_str a c b t
  |_=>exact q0Q (show false=true from fx) Ld
 |_=>exact q0Q (show false=true from fy) Ld
theorem lE:g7 X (.builtin "len") (λxs H Q=>∃p ys,xs=[.ref p]/\(aQ X.K H p ys\/cR X.K H p ys)/\Q (.int ys.length) H):=by
 intro pins s σ H xs us Q I r h;obtain⟨p,ys,rfl,hq,q⟩:=h;obtain⟨u,rfl,g⟩:=vX r;cases g;have hn:=mM;rcases hq with hq | hq
 ·obtain⟨e,b,c,j⟩:=I.list hq
  have a:=b.length;exact Calls.call_len_list c.isList (by simp only[KW]<;>omega) ⟨.int ys.length,H,I.tok _,⟨s.toks+1,by rw[KW,a]⟩,q⟩
 ·obtain⟨e,b,c,j⟩:=I.tuple hq
  have a:=b.length;exact len_tuple c (by simp only[KW]<;>omega) ⟨.int ys.length,H,I.tok _,⟨s.toks+1,by rw[KW,a]⟩,q⟩
theorem bw:g7 X (.builtin "len") (λxs H Q=>∃z,xs=[.str z]/\z.length<=sizeLine/\Q (.int z.length) H):=by
 intro pins s σ H xs us Q I r h;obtain⟨z,rfl,hz,q⟩:=h;obtain⟨u,rfl,t,rfl⟩:=vX r;have hn:=mM;exact len_str ⋯ ⟨.int z.length,H,I.tok _,⟨_,rfl⟩,q⟩
theorem cy:g7 X (.type "list") (λxs H Q=>∃p ys,xs=[.ref p]/\(aQ X.K H p ys\/cR X.K H p ys)/\∀l,H l=none->Q (.ref l) (aD H l (.lst ys))):=by
 intro k s σ H xs us Q I r h;obtain⟨p,ys,rfl,hq,q⟩:=h;obtain⟨u,rfl,C⟩:=vX r;cases C;have fin:∀(a:LQ),bh ys a->ys.length<=sizeLine->∀(c:Heap) (j:Nat),(∀b o',s.heap.get? b=some o'->c.get? b=some o') ->
   c.get? s.heap.objs.size=some {cls:=.type "list",dict:=none,data:=.seq a.toArray j,slots:=#[]}->EP X k σ Q (.ref s.heap.objs.size) {s with heap:=c }:=λa g m c j kp e=>
  ⟨.ref s.heap.objs.size,_,I.laid (t':=s.toks) kp (Lb _) (show cG X.prog X.w _ c _ (.lst ys) from⟨m,a,j,g,e⟩),rfl,q _ (I.hok.fresh (Lb _))⟩
 rcases hq with hq | hq
 ·obtain⟨a,g,x,m⟩:=I.list hq
  have v:=g.length;obtain⟨o,y,B,n,z⟩:=x.isList;exact call_list_seq p (.inl rfl) y B z (λc j kp e=>fin a g m c j kp e) (by simp only[KW]<;>omega)
 ·obtain⟨a,g,x,m⟩:=I.tuple hq
  have v:=g.length;obtain⟨o,y,B,n,z⟩:=x;exact call_list_seq p (.inr rfl) y B z (λc j kp e=>fin a g m c j kp e) (by simp only[KW]<;>omega)
def Hb(K:LM)(T:String)(x:V)(H:Hp):Prop:=match x with
 | .str _=>T="str"
 | .int _=>T="int"
 | .ref p=>(T="list"/\∃xs,aQ K H p xs)\/(T="tuple"/\∃o,K.lookup p=some o/\o.cls=.type "tuple"/\o.dict=none) \/
   (T="dict"/\((∃kvs,H p=some (.dK kvs))\/∃kvs,H p=some (.dT kvs)))\/(T="set"/\∃S n,H p=some (.set S n))
 |_=>False
theorem AD{pins:LN}{σ:St}(I:Inv X pins σ H s)(r:bG x v)(ty:Hb X.K T x H) :
  s.TypeIs v T/\∀a,v=.ref a->∃ob,s.heap.get? a=some ob/\ob.dict=none:=by
 cases x with
 |str z=>
  obtain⟨t,rfl⟩:=r;cases(show T="str" from ty);exact⟨typeIs_str s z t,λ_ e=>nomatch e⟩
 |int i=>
  obtain⟨t,rfl⟩:=r;cases(show T="int" from ty);exact⟨typeIs_int s i t,λ_ e=>nomatch e⟩
 |ref p=>
  cases r;rcases ty with⟨rfl,xs,q⟩ | ⟨rfl,o,b,u,k⟩ | ⟨rfl,b⟩ | ⟨rfl,S,n,b⟩
  ·obtain⟨its,_,m,_⟩:=I.list q
   refine⟨m.isList.typeIs,λa e=>?_⟩;cases e;obtain⟨o,n,e,c,k,_⟩:=m;exact⟨o,e,k⟩
  ·refine⟨⟨o,I.kIn p o b,u⟩,λa e=>?_⟩
   cases e;exact⟨o,I.kIn _ o b,k⟩
  ·have z:∃o,s.heap.get? p=some o/\o.ExactDict:=by
    rcases b with⟨j,b⟩ | ⟨j,b⟩
    ·obtain⟨_,_,_,_,o,_,_,e,g,_⟩:=I.hok p _ b
     exact⟨o,e,g⟩
    ·obtain⟨_,_,_,_,o,_,_,e,g,_⟩:=I.hok p _ b
     exact⟨o,e,g⟩
   obtain⟨o,e,g⟩:=z;refine⟨⟨o,e,g.1⟩,λa l=>?_⟩;cases l;exact⟨o,e,g.2.1⟩
  ·obtain⟨o,_,_,_,e,g,_⟩:=I.hok p _ b
   refine⟨⟨o,e,g.1⟩,λa l=>?_⟩;cases l;exact⟨o,e,g.2.1⟩
 |_=>exact False.elim ty
def E3(K:LM)(T:String)(r:V->List V->Hp->VK->Prop)(to:TE):TE:=λσ H Q=>to σ H λx H1=>Hb K T x H1/\r x [] H1 Q
def Ga(K:LM)(T:String)(r:V->List V->Hp->VK->Prop)(to:TE)(t:TA):TE:=λσ H Q=>to σ H λx H1=>Hb K T x H1/\t σ H1 λxs H2=>r x xs H2 Q
variable {o e:Expr}{es:L3}{to:TE}{t:TA}{name:Str}{apos cpos:Pos}{T id:String}{r:V->List V->Hp->VK->Prop}
theorem Cf(pa:PlainAttrs T)(slot:Slot T name id)(hty:typeOf (.builtin id)=pure (.type "method_descriptor"))(hm:Gx X id r)(ho:PE X o to)
  (hbase:autoParam (attributeBase o name X.env (eval o X.env)=eval o X.env) zz0._auto_1) (hline:autoParam ((apos.endLine==cpos.line)=true) zz0._auto_1):PE X (.Call (.Attribute o name apos) [] [] cpos) (E3 X.K T r to):=by
 intro a s σ H Q I h;refine wpAny_Call_method0_late hbase hline (ci (ho a s σ H _ I h) λv e ⟨x,H1,c,b,ty,g⟩=>?_);obtain⟨h1,h2⟩:=AD c b ty;exact⟨T,id,pa,slot,hty,h1,h2,Calls.callWith_builtin rfl (PySem.evalArgs_none (hm a e σ H1 x [] v [] Q c b .nil g))⟩
theorem cP(pa:PlainAttrs T)(slot:Slot T name id)(hty:typeOf (.builtin id)=pure (.type "method_descriptor"))(hm:Gx X id r)(ho:PE X o to)(ha:PA X (e::es) t)
  (hbase:autoParam (attributeBase o name X.env (eval o X.env)=eval o X.env) zz0._auto_1)
  (hfew:autoParam (((backTo cpos (starEach (e::es) X.env)).all (λx=>!x.1)&&(backToKw cpos (keywordEach [] X.env)).all (λx=>x.1.isSome)
   && decide ((e::es).length+([]:List Keyword).length+(if([]:List Keyword).isEmpty then 0 else 1)<30))=true) zz0._auto_1)
  (hline:autoParam ((apos.endLine==cpos.line)=true) zz0._auto_1) (hs:autoParam (starEach (e::es) X.env=(false,eval e X.env)::starEach es X.env) zz0._auto_1) (hplain:autoParam ((backTo cpos (starEach es X.env)).any (·.1)=false) zz0._auto_1) :
  PE X (.Call (.Attribute o name apos) (e::es) [] cpos) (Ga X.K T r to t):=by
 intro a s σ H Q I h;refine wpAny_Call_method_late hbase hfew hline rfl (ci (ho a s σ H _ I h) λv k ⟨x,H1,g,b,ty,n⟩=>?_);obtain⟨h1,h2⟩:=AD g b ty;refine⟨T,id,pa,slot,hty,h1,h2,?_⟩;have c:=ha cpos a k σ H1 _ g n;rw[hs]at c ⊢;refine Calls.callWith_builtin (by show(false||(backTo cpos (starEach es X.env)).any (·.1))=false;rw[hplain]<;>rfl) (Calls.evalArgs_plain ?_);exact ci c λus j ⟨vs,H2,p,l,m⟩=>hm a j σ H2 x vs v us Q p b l m
end
def HM(X:Cx)(id:String)(r:V->List V->Hp->VK->Prop):Prop:=
 ∀(pins:LN) (s:LP) (σ:St) (H:Hp) (x:V) (xs:List V) (v:Value) (us:LQ) (Q:VK),Inv X pins σ H s->bG x v->bh xs us->r x xs H Q ->
  wpAny d⁻¹ X.A (call (.builtin id) (v::us)) (EP X pins σ Q) X.xe s
theorem bh.one{x:V}{us:LQ}(h:bh [x] us):∃u,us=[u]/\bG x u:=by
 cases h with | cons r h=>cases h;exact⟨_,rfl,r⟩
theorem bh.two{x y:V}{us:LQ}(h:bh [x,y] us):∃u v,us=[u,v]/\bG x u/\bG y v:=by
 cases h with | cons r h=>obtain⟨u,rfl,q⟩:=bh.one h;exact⟨_,_,rfl,r,q⟩
theorem bh.zero:∀{us:LQ},bh [] us->us=[]
 |_,.nil=>rfl
theorem bh.dropLast(h:bh xs us):bh xs.dropLast us.dropLast:=by
 induction h with
 |nil=>exact .nil
 |cons r t ih=>
  cases t with
  |nil=>exact .nil
  |cons q t'=>exact .cons r ih
theorem w9{α:Type}(l:List α):l.eraseIdx (l.length-1)=l.dropLast:=by
 induction l with
 |nil=>rfl
 |cons a r ih=>
  cases r with
  |nil=>rfl
  |cons b r=>
   have e:(a::b::r).length-1=((b::r).length-1)+1:=by
    have h1:(a::b::r).length=r.length+2:=rfl;have h2:(b::r).length=r.length+1:=rfl;omega
   rw[e,List.eraseIdx_cons_succ,ih]
   all_goals rfl
section
variable {X:Cx}{pins:LN}{σ:St}{H:Hp}{s:LP}{l b:Addr}{xs ys zs:List V}
theorem Inv.lset{its its':LQ}{f:Array Value->Array Value}{t':Nat}(I:Inv X pins σ H s)(hH:H l=some (.lst xs))
  (e:s.heap.get? l=some {cls:=.type "list",data:=.seq its.toArray n}) (hf:f its.toArray=its'.toArray) (hv:bh ys its') (hz:ys.length<=sizeLine) :
  Inv X pins σ (aD H l (.lst ys)) {s with heap:=s.heap.update l (Obj.mapSeq f),toks:=t' }:=by
 have q:=PySem.IsL.update e f;rw[hf]at q;refine I.write (x:=l) (e:=l) (by rw[hH];exact trivial) (.inl rfl) (λb' u b a=>(KS s.heap (Obj.mapSeq f) (Ne.symm b)).trans a) ⟨_,q⟩ ?_;exact⟨hz,its',_,hv,q⟩
theorem Inv.lnew{its:LQ}{t':Nat}(I:Inv X pins σ H s)(hv:bh ys its)(hz:ys.length<=sizeLine) :
  Inv X pins σ (aD H s.heap.objs.size (.lst ys)) {s with heap:=s.heap.push {cls:=.type "list",data:=.seq its.toArray},toks:=t' }:=
 I.laid (λ_ _ q=>KN _ q) (Lb _) ⟨hz,its,0,hv,KU _ rfl⟩
theorem Inv.fresh(I:Inv X pins σ H s):H s.heap.objs.size=none:=I.hok.fresh (Lb _)
theorem Inv.lstM(I:Inv X pins σ H s)(hH:H l=some (.lst xs)):xs.length<=sizeLine/\∃(its:LQ) (n:Nat),bh xs its/\xs.length=its.length/\s.heap.get? l=some {cls:=.type "list",data:=.seq its.toArray n}:=by
 obtain⟨z,its,n,r,e⟩:=I.hok l _ hH;exact⟨z,its,n,r,r.length,e⟩
theorem BP{n:Nat}(h:n<=sizeLine):Builtin.List.listTooLong n=false:=by
 unfold Builtin.List.listTooLong;exact q08 ⋯
end
section
variable {X:Cx}
def ud:V->List V->Hp->VK->Prop:=λx vs H Q=>∃l xs y,x=.ref l/\vs=[y]/\H l=some (.lst xs)/\xs.length<sizeLine/\Q .non (aD H l (.lst (xs++[y])))
theorem bx:HM X "list.append" ud:=by
 intro pins s σ H x vs v us Q I rx rv h;obtain⟨l,xs,y,rfl,rfl,b,hz,q⟩:=h;cases rx;obtain⟨u,rfl,c⟩:=rv.one;obtain⟨z,a,n,r,hl,e⟩:=I.lstM b;refine call_meets F.slot_list_append ⟨_,e,rfl⟩ F.entry_list_append (F.args_list_append_2 _ _) (PySem.list_append l a.toArray n u (by rw[KW];omega)) ⟨e,?_⟩;refine⟨.non,_,I.lset (its':=a++[u]) b e (by simp) (r.append (.cons c .nil)) ?_,rfl,q⟩;rw[La,q0Z];omega
theorem q03{e:Expr}{es:List Expr}{to:TE}{t:TA}{apos cpos:Pos}(ho:PE X o to)(ha:PA X (e::es) t)
  (hbase:autoParam (attributeBase o "append" X.env (eval o X.env)=eval o X.env) zz0._auto_1)
  (hfew:autoParam (((backTo cpos (starEach (e::es) X.env)).all (λx=>!x.1)&&(backToKw cpos (keywordEach [] X.env)).all (λx=>x.1.isSome)
   && decide ((e::es).length+([]:List Keyword).length+(if([]:List Keyword).isEmpty then 0 else 1)<30))=true) zz0._auto_1)
  (hline:autoParam ((apos.endLine==cpos.line)=true) zz0._auto_1) (hs:autoParam (starEach (e::es) X.env=(false,eval e X.env)::starEach es X.env) zz0._auto_1) (hplain:autoParam ((backTo cpos (starEach es X.env)).any (·.1)=false) zz0._auto_1) :
  PE X (.Call (.Attribute o "append" apos) (e::es) [] cpos) (Ga X.K "list" ud to t):=cP PySem.F.plainAttrs_list PySem.F.slot_list_append PySem.F.type_list_append bx ho ha hbase hfew hline hs hplain
def uA:V->List V->Hp->VK->Prop:=λx vs H Q=>∃l b xs zs,x=.ref l/\vs=[.ref b]/\H l=some (.lst xs)/\H b=some (.lst zs)/\xs.length+zs.length<=sizeLine/\Q .non (aD H l (.lst (xs++zs)))
theorem Ae:HM X "list.extend" uA:=by
 intro pins s σ H x vs v us Q I rx rv h;obtain⟨l,b,xs,zs,rfl,rfl,k,w,hz,q⟩:=h;cases rx;obtain⟨u,rfl,m⟩:=rv.one;cases m;obtain⟨z,c,n,r,hl,e⟩:=I.lstM k;obtain⟨z2,a,p,o,hl2,y⟩:=I.lstM w;have j:c.toArray.size+a.toArray.size<=sizeLine:=by rw[KW,KW];omega
 have g:¬ (!c.toArray.isEmpty&&Builtin.List.listTooLong (c.toArray.size+a.toArray.size))=true:=by
  rw[BP j,Bool.and_false];exact Ld
 refine call_meets F.slot_list_extend ⟨_,e,rfl⟩ F.entry_list_extend (F.args_list_extend_2 _ _)
  (AutoSeq1.list_extend_list_list_0 l c.toArray n b a.toArray p g (by rw[KW];omega) ⋯) ⟨e,y,?_⟩
 refine⟨.non,_,I.lset (its':=c++a) k e (by simp) (r.append o) ?_,rfl,q⟩;rw[La];omega
def FO:V->List V->Hp->VK->Prop:=λx vs H Q=>∃l xs y,x=.ref l/\vs=[]/\H l=some (.lst xs)/\xs[xs.length-1]?=some y/\Q y (aD H l (.lst xs.dropLast))
theorem Ch:HM X "list.pop" FO:=by
 intro pins s σ H x vs v us Q I rx rv h;obtain⟨l,xs,y,rfl,rfl,g,k,q⟩:=h;cases rx;have c:=rv.zero;subst c;obtain⟨z,a,n,r,o,e⟩:=I.lstM g;obtain⟨u,m,j⟩:=r.get k;have b:a.toArray[a.toArray.size-1]?=some u:=by
  show a.toArray[a.length-1]?=some u;rw[<- q0G,<- o];exact m
 refine call_meets F.slot_list_pop ⟨_,e,rfl⟩ F.entry_list_pop (F.args_list_pop_1 _) (MeetsSeq.list_pop_last l a.toArray n u b (by rw[KW];omega)) ⟨e,?_⟩;refine⟨y,_,I.lset (its':=a.dropLast) g e ?_ r.dropLast ?_,j,q⟩
 ·show a.toArray.eraseIdxIfInBounds (a.toArray.size-1)=a.dropLast.toArray
  rw[KW,List.eraseIdxIfInBounds_toArray,w9]
 ·rw[List.length_dropLast]
  omega
def E9:R2:=λx y H Q=>∃l b xs zs,x=.ref l/\y=.ref b/\H l=some (.lst xs)/\H b=some (.lst zs)/\xs.length+zs.length<=sizeLine/\∀p,H p=none->Q (.ref p) (aD H p (.lst (xs++zs)))
theorem wH:bC X (binaryOp .Add) E9:=by
 intro pins s σ H x y v u Q I rx ry h;obtain⟨l,b,xs,zs,rfl,rfl,j,k,hz,q⟩:=h;cases rx;cases ry;obtain⟨z,c,n,r,hl,e⟩:=I.lstM j;obtain⟨z2,a,n2,g,hl2,o⟩:=I.lstM k;refine PySem.P.add_list e o ?_ (by rw[KW,KW];omega);have m:c.toArray++a.toArray=(c++a).toArray:=by simp
 rw[m];exact⟨.ref _,_,I.lnew (t':=s.toks) (r.append g) (by rw[La];omega),rfl,q _ I.fresh⟩
theorem sS{α:Type}(xs:List α)(k:Nat):(List.replicate k xs).flatten.length=k*xs.length:=by
 induction k with
 |zero=>simp
 |succ k ih=>rw[List.replicate_succ,List.flatten_cons,La,ih,Nat.succ_mul,Nat.add_comm]
end
section
variable {κ:Type}[DecidableEq κ]
def dS(kvs:List (κ×V))(k:κ):Option V:=(kvs.find? λkv=>decide (kv.1=k)).map (·.2)
def dL(kvs:List (κ×V))(k:κ)(v:V):List (κ×V):=
 if(kvs.any λkv=>decide (kv.1=k))=true then kvs.map (λkv=>if kv.1=k then(kv.1,v) else kv) else kvs++[(k,v)]
theorem hJ{p:κ×V}{r:List (κ×V)}{k:κ}(e:p.1=k):dS (p::r) k=some p.2:=by simp[dS,List.find?_cons,e]
theorem g_{p:κ×V}{r:List (κ×V)}{k:κ}(e:¬ p.1=k):dS (p::r) k=dS r k:=by simp[dS,List.find?_cons,e]
theorem hX(k:κ):∀kvs:List (κ×V),(kvs.any λkv=>decide (kv.1=k))=(dS kvs k).isSome
 | []=>rfl
 |p::r=>by
  rw[List.any_cons]
  by_cases e:p.1=k
  ·simp only[hJ e,q09 e,Bool.true_or,Option.isSome_some]
  ·rw[g_ e,q08 e,Bool.false_or];exact hX k r
theorem gn(kvs:List (κ×V))(k:κ)(v:V):(dL kvs k v).length<=kvs.length+1:=by
 unfold dL
 split
 ·rw[KO];omega
 ·rw[La,K1,List.length_nil];omega
theorem AX{kvs:List (κ×V)}{k:κ}(v:V)(h:dS kvs k=none):dL kvs k v=kvs++[(k,v)]:=by
 unfold dL;rw[hX,h];exact q06 b⁻¹
theorem iW.isSome_eq(r:iW o u):o.isSome=u.isSome:=by
 cases o with
 |none=>cases u with
  |none=>rfl
  |some _=>exact(show False from r).elim
 |some _=>cases u with
  |none=>exact(show False from r).elim
  |some _=>rfl
theorem iW.getD{d:V}(r:iW o u)(rd:bG d d'):bG (o.getD d) (u.getD d'):=by
 cases o with
 |none=>cases u with
  |none=>exact rd
  |some _=>exact(show False from r).elim
 |some _=>cases u with
  |none=>exact(show False from r).elim
  |some _=>exact r
theorem KV.val{kvs:List (κ×V)}{vs:List (κ×Value)}(r:KV kvs vs)(k:κ):iW (dS kvs k) (valueAt vs k):=by
 unfold KV at r
 induction r with
 |nil=>exact True.intro
 | @cons p q ps qs h t ih=>
  obtain⟨h1,h2⟩:=h
  by_cases e:p.1=k
  ·have a:q.1=k:=h1.symm.trans e
   have b:valueAt (q::qs) k=some q.2:=by simp[valueAt,List.find?_cons,a]
   rw[hJ e,b];exact h2
  ·have a:¬ q.1=k:=λz=>e (h1.trans z)
   have b:valueAt (q::qs) k=valueAt qs k:=by simp[valueAt,List.find?_cons,a]
   rw[g_ e,b];exact ih
theorem KV.any{kvs:List (κ×V)}{vs:List (κ×Value)}(r:KV kvs vs)(k:κ):(kvs.any λkv=>decide (kv.1=k))=vs.any λkv=>decide (kv.1=k):=by
 unfold KV at r
 induction r with
 |nil=>rfl
 |cons h t ih=>rw[List.any_cons,List.any_cons,ih,h.1]
theorem KV.repl{kvs:List (κ×V)}{vs:List (κ×Value)}(r:KV kvs vs)(k:κ){y:V}{u:Value}(ry:bG y u) :
  KV (kvs.map λkv=>if kv.1=k then(kv.1,y) else kv) (vs.map λkv=>if kv.1=k then(kv.1,u) else kv):=by
 unfold KV at r ⊢
 induction r with
 |nil=>exact .nil
 | @cons p q ps qs h t ih=>
  rw[Lh,Lh];refine .cons ?_ ih;obtain⟨h1,h2⟩:=h
  by_cases e:p.1=k
  ·rw[q07 e,q07 (h1.symm.trans e)];exact⟨h1,ry⟩
  ·rw[q06 e,q06 (λz=>e (h1.trans z))];exact⟨h1,h2⟩
theorem KV.put{kvs:List (κ×V)}{vs:List (κ×Value)}(r:KV kvs vs)(k:κ){y:V}{u:Value}(ry:bG y u):KV (dL kvs k y) (stored vs k u):=by
 unfold dL stored;rw[r.any k]
 by_cases e:(vs.any λa=>decide (a.1=k))=true
 ·rw[q07 e,q07 e];exact r.repl k ry
 ·rw[q06 e,q06 e];exact Paired.snoc r ⟨rfl,ry⟩
theorem KV.keys{kvs:List (κ×V)}{vs:List (κ×Value)}(r:KV kvs vs):kvs.map (·.1)=vs.map (·.1):=by
 unfold KV at r
 induction r with
 |nil=>rfl
 |cons h t ih=>rw[Lh,Lh,ih,h.1]
theorem KV.length{kvs:List (κ×V)}{vs:List (κ×Value)}(r:KV kvs vs):kvs.length=vs.length:=Paired.length r
end
theorem m9{u:Value}(r:bG (kV k) u):(cj P w).is k u=true:=by
 cases k with
 |inl i=>obtain⟨t,e⟩:=(show ∃t,u=Value.int i t from r);subst e;exact vG P w i t
 |inr x=>obtain⟨t,e⟩:=(show ∃t,u=Value.str x t from r);subst e;exact vw P w x t
theorem rq:∀{ks:List c_} {us:LQ},bh (ks.map kV) us->ItemsAre (cj P w) ks us
 | [],_,r=>by rw[List.map_nil]at r;cases r;exact .nil
 |k::ks,_,r=>by
  rw[Lh]at r;cases r with
  |cons h t=>exact .cons (m9 h) (rq t)
abbrev KT(H:Hp):List (List c_×V)->List (List c_×Addr×Value)->Prop:=Paired λp q=>p.1=q.1/\H q.2.1=some (.tup (p.1.map kV))/\bG p.2 q.2.2
theorem KT.val(r:KT H kvs xs)(k:List c_):iW (dS kvs k) ((atKey xs k).map (·.2)):=by
 induction r with
 |nil=>exact True.intro
 | @cons p q ps qs h t ih=>
  obtain⟨h1,_,h2⟩:=h
  by_cases e:p.1=k
  ·have a:q.1=k:=h1.symm.trans e
   have b:atKey (q::qs) k=some q.2:=by simp[atKey,List.find?_cons,a]
   rw[hJ e,b];exact h2
  ·have a:¬ q.1=k:=λz=>e (h1.trans z)
   have b:atKey (q::qs) k=atKey qs k:=by simp[atKey,List.find?_cons,a]
   rw[g_ e,b];exact ih
theorem KT.repl(r:KT H kvs xs)(k:List c_){y:V}{u:Value}(ry:bG y u) :
  KT H (kvs.map λkv=>if kv.1=k then(kv.1,y) else kv) (xs.map (putAt k u)):=by
 induction r with
 |nil=>exact .nil
 | @cons p q ps qs h t ih=>
  rw[Lh,Lh];refine .cons ?_ ih;obtain⟨h1,h2,a⟩:=h;unfold putAt
  by_cases e:p.1=k
  ·rw[q07 e,q07 (h1.symm.trans e)];exact⟨h1,h2,ry⟩
  ·rw[q06 e,q06 (λz=>e (h1.trans z))];exact⟨h1,h2,a⟩
theorem KT.put(r:KT H kvs xs)(k:List c_){b:Addr}{y:V}{u:Value}(hb:H b=some (.tup (k.map kV)))(ry:bG y u) :
  KT H (dL kvs k y) (storedH xs k b u):=by
 have e:(kvs.any λa=>decide (a.1=k))=(atKey xs k).isSome:=by
  rw[hX,(r.val k).isSome_eq,Option.isSome_map]
 unfold dL storedH;rw[e]
 by_cases q:(atKey xs k).isSome=true
 ·rw[q07 q,q07 q];exact r.repl k ry
 ·rw[q06 q,q06 q];exact Paired.snoc r ⟨rfl,hb,ry⟩
theorem KT.keeps{H':Hp}(r:KT H kvs xs)(ht:∀b ys,H b=some (.tup ys)->H' b=some (.tup ys)):KT H' kvs xs:=
 Paired.mapP r λ_ _ z=>⟨z.1,ht _ _ z.2.1,z.2.2⟩
section
variable {P:LV}{w:LY}{H:Hp}{h:Heap}{a:Addr}
theorem Es(ok:kr P w H h)(e:Rd H a u):cG P w H h a u:=e.ok ok
theorem nv(ok:kr P w H h)(e:Rd H a (.dK kvs)):kvs.length<=sizeLine/\(a==sysModules)=false/\∃vs,KV kvs vs/\h.DictOf (cj P w) a vs:=
 show cG P w H h a (.dK kvs) from Es ok e
theorem rU(ok:kr P w H h)(e:H a=some (.dK kvs)):kvs.length<=sizeLine/\(a==sysModules)=false/\∃vs,KV kvs vs/\h.DictOf (cj P w) a vs:=nv ok (.inl e)
theorem lV{ks:List c_}(ok:kr P w H h)(e:H a=some (.tup (ks.map kV))):(tupleKind (cj P w)).is h ks a:=by
 obtain⟨_,b,r,o,h1,h2,n,c⟩:=(show cG P w H h a (.tup (ks.map kV)) from ok a _ e);exact⟨o,b.toArray,n,h1,h2,c,by simpa using rq r⟩
theorem pC(ok:kr P w H h)(e:Rd H a (.dT kvs)):kvs.length<=sizeLine/\(a==sysModules)=false /\
  ∃xs,KT H kvs xs/\h.DictOfH (tupleKind (cj P w)) a xs:=by
 obtain⟨z,y,xs,r,o,j,k,h1,h2,g,c,b⟩:=(show cG P w H h a (.dT kvs) from Es ok e);refine⟨z,y,xs,r,o,j,k,h1,h2,g,c,λx hx=>?_,b⟩;have all:∀{l:List (List c_×V)} {m:List (List c_×Addr×Value)},KT H l m->∀x∈m,(tupleKind (cj P w)).is h x.1 x.2.1:=by
  intro l m q
  induction q with
  |nil=>intro x hx;exact nomatch hx
  | @cons p q ps qs hq t ih=>
   intro x hx;rcases K5.mp hx with e | hx
   ·subst e
    exact lV ok (by rw[<- hq.1];exact hq.2.1)
   ·exact ih x hx
 exact all r x hx
theorem GB(ok:kr P w H h)(e:H a=some (.dT kvs)):kvs.length<=sizeLine/\(a==sysModules)=false /\
  ∃xs,KT H kvs xs/\h.DictOfH (tupleKind (cj P w)) a xs:=pC ok (.inl e)
end
def lM(H:Hp)(a:Addr)(y:V)(r:Option V):Prop:=
 (∃kvs k,Rd H a (.dK kvs)/\y=kV k/\r=dS kvs k)\/∃kvs k b,Rd H a (.dT kvs)/\y=.ref b/\H b=some (.tup (k.map kV))/\r=dS kvs k
def yR(H:Hp)(a:Addr)(y v:V)(H':Hp):Prop:=
 (∃kvs k,H a=some (.dK kvs)/\y=kV k/\kvs.length<sizeLine/\H'=aD H a (.dK (dL kvs k v))) \/
 ∃kvs k b,H a=some (.dT kvs)/\y=.ref b/\H b=some (.tup (k.map kV))/\kvs.length<sizeLine/\H'=aD H a (.dT (dL kvs k v))
theorem lM.t{H:Hp}{k:List c_}(e:H a=some (.dT kvs))(eb:H b=some (.tup (k.map kV))):lM H a (.ref b) (dS kvs k):=.inr ⟨kvs,k,b,.inl e,rfl,eb,rfl⟩
theorem yR.t{H:Hp}{k:List c_}{v:V}(e:H a=some (.dT kvs))(eb:H b=some (.tup (k.map kV)))(hl:kvs.length<sizeLine) :
  yR H a (.ref b) v (aD H a (.dT (dL kvs k v))):=.inr ⟨kvs,k,b,e,rfl,eb,hl,rfl⟩
section
variable {X:Cx}{pins:LN}{σ:St}{H:Hp}{s:LP}{a:Addr}{y v:V}{u r:Value}{o:Option V}{A:LX}{E:LL}
theorem Inv.big(I:Inv X pins σ H s):sysModules<s.heap.objs.size:=by
 have h:mainGlobals<s.heap.objs.size:=(I.mod.glob.keeps I.bk).lt;exact Nat.lt_trans b⁻¹ h
theorem zG{Q:LL}(hu:A.units+1<cLine)(I:Inv X pins σ H s)(g:lM H a y (some v))(ry:bG y u)(h:∀w' s',Inv X pins σ H s'->bG v w'->Q w' s') :
  wpAny d⁻¹ A (getItem (.ref a) u) Q E s:=by
 rcases g with⟨m,k,e,r,l⟩ | ⟨m,k,b,e,r,D,l⟩
 ·subst r
  obtain⟨z,C,vs,j,w⟩:=nv I.hok e;obtain⟨w',n,c⟩:=iW.some_of (v:=v) (o:=valueAt vs k) (by rw[l];exact j.val k);exact wpAny_getItem_of (m9 ry) w.mapOf n (h w' _ (I.tok _) c)
 ·subst r
  cases(show u=Value.ref b from ry);obtain⟨z,C,x,j,w⟩:=pC I.hok e;obtain⟨w',n,c⟩:=iW.some_of (v:=v) (o:=(atKey x k).map (·.2)) (by rw[l];exact j.val k);obtain⟨p,B,q⟩:=Lf.mp n;refine wpAny_getItem_heap (tupleKind_room_in1 hu) (lV I.hok D) w B ?_;rw[q];exact h w' _ (I.tok _) c
theorem HF{Q:LL}(hu:A.units+1<cLine)(I:Inv X pins σ H s)(g:lM H a y o)(ry:bG y u)(h:∀s',Inv X pins σ H s'->Q (.bool o.isSome) s') :
  wpAny d⁻¹ A (compareOp .In u (.ref a)) Q E s:=by
 rcases g with⟨j,k,e,n,l⟩ | ⟨j,k,b,e,n,r,l⟩
 ·subst n
  obtain⟨z,m,vs,c,p⟩:=nv I.hok e;refine wpAny_in_of (m9 ry) m p.mapOf ?_;rw[<- (c.val k).isSome_eq,<- l];exact h _ (I.tok _)
 ·subst n
  cases(show u=Value.ref b from ry);obtain⟨z,m,xs,c,p⟩:=pC I.hok e;refine wpAny_in_heap (tupleKind_room_in1 hu) (lV I.hok r) m p ?_;have q:=(c.val k).isSome_eq;rw[Option.isSome_map]at q;rw[<- q,<- l];exact h _ (I.tok _)
theorem DA{Q:LL}(hu:A.units+1<cLine)(I:Inv X pins σ H s)(g:lM H a y o)(ry:bG y u)(h:∀s',Inv X pins σ H s'->Q (.bool (!o.isSome)) s') :
  wpAny d⁻¹ A (compareOp .NotIn u (.ref a)) Q E s:=by
 rcases g with⟨j,k,e,n,l⟩ | ⟨j,k,b,e,n,r,l⟩
 ·subst n
  obtain⟨z,m,vs,c,p⟩:=nv I.hok e;refine wpAny_notIn_of (m9 ry) m p.mapOf ?_;rw[<- (c.val k).isSome_eq,<- l];exact h _ (I.tok _)
 ·subst n
  cases(show u=Value.ref b from ry);obtain⟨z,m,xs,c,p⟩:=pC I.hok e;refine wpAny_notIn_heap (tupleKind_room_in1 hu) (lV I.hok r) m p ?_;have q:=(c.val k).isSome_eq;rw[Option.isSome_map]at q;rw[<- q,<- l];exact h _ (I.tok _)
theorem nY{t':Nat}{ob:HO}(I:Inv X pins σ H s)(mu:Go (H a))(hs:Heap.SameBut a s.heap h')(he:∃q,h'.get? a=some q)(new:cG X.prog X.w (aD H a ob) h' a ob) :
  Inv X pins σ (aD H a ob) {s with heap:=h',toks:=t' }:=
 I.write (x:=a) (e:=a) mu (.inl rfl) (λb q hb z=>(hs.2 b hb).trans z) he new
theorem xb{h':Heap}{kvs:List (c_×V)}(z:kvs.length<=sizeLine)(hd:(a==sysModules)=false)(rel:KV kvs vs)(dd:h'.DictOf (cj P w) a vs) :
  cG P w H' h' a (.dK kvs):=⟨z,hd,vs,rel,dd⟩
theorem zV{Q:Unit->Shared->Prop}(hu:A.units+1<cLine)(I:Inv X pins σ H s)(g:yR H a y v H')(ry:bG y u)(rv:bG v r)(h:∀s',Inv X pins σ H' s'->Q () s') :
  wpAny d⁻¹ A (setItem (.ref a) u r) Q E s:=by
 rcases g with⟨m,k,e,C,l,D⟩ | ⟨m,k,b,e,C,M,l,D⟩
 ·subst C D
  obtain⟨z,B,vs,j,G⟩:=rU I.hok e;have p:vs.length<=sizeLine:=by rw[<- j.length];exact z
  have x:(dL m k v).length<=sizeLine:=by have:=gn m k v;omega
  refine wpAny_setItem_pairs (hsz:=p) (m9 ry) G λJ n w=>h _ ?_;have R:∃q,J.get? a=some q:=let ⟨q,_,_,o,_⟩:=n;⟨q,o⟩
  exact nY I (by rw[e];exact True.intro) w R (xb x B (j.put k rv) n)
 ·subst C D
  cases(show u=Value.ref b from ry);obtain⟨z,B,O,j,G⟩:=GB I.hok e;have p:O.length<=sizeLine:=by rw[<- Paired.length j];exact z
  have x:(dL m k v).length<=sizeLine:=by have:=gn m k v;omega
  refine wpAny_setItem_heap (hsz:=p) (tupleKind_room_in1 hu) (lV I.hok M) G λJ n w=>h _ ?_;obtain⟨q,Y,Z,o,h2,U,T,_,S⟩:=n;refine nY I (by rw[e];exact True.intro) w ⟨q,o⟩ ⟨x,B,_,(j.put k M rv).keeps λc ys L=>?_,q,Y,Z,o,h2,U,T,S⟩;rw[ar (qY L e (λz=>nomatch z))];exact L
end
section
variable {X:Cx}{pins:LN}{σ:St}{H:Hp}{s:LP}{a:Addr}{kvs:List (c_×V)}{k:c_}{u:Value}{A:LX}{E:LL}
theorem Gd{Q:LL}(I:Inv X pins σ H s)(e:Rd H a (.dK kvs))(h:∀t s',Inv X pins σ H s'->Q (.int kvs.length t) s'):wpAny d⁻¹ A (call (.builtin "len") [.ref a]) Q E s:=by
 obtain⟨z,c,vs,b,g⟩:=nv I.hok e;refine call_len_dict c g (by rw[<- b.length];rw[q0W]at z;omega) ?_;rw[<- b.length];exact h _ _ (I.tok _)
end
def Gy(i:Expr):Prop:=∀ov iv,subscripted i false ov iv=operate [ov,iv] (getItem ov iv)
theorem CU{prog:LV}{A:LX}{env:Env}{value slice:Expr}{pos:Pos}{id:String}{Q:LL}
  (hl:typeLookup (.type T) "__getitem__"=pure (some (.builtin id))) (hs:Gy slice)
  (h:wpAny c⁻¹ A (eval value env) (λo s₁=>wpAny c⁻¹ A (eval slice env) (λi s₂=>s₂.TypeIs o T/\wpAny c⁻¹ A (getItem o i) Q E s₂) E s₁) E s) :
  wpAny c⁻¹ A (eval (.Subscript value slice pos) env) Q E s:=by
 refine Subscript_ (q0X h (λo s₁ g=>q0X g (λi s₂ a=>?_) λ_ _ x=>x) λ_ _ x=>x);obtain⟨c,a⟩:=a;unfold subscriptTail;refine q04 ?_;rw[getitemInPython_of_ne c.not_modules];refine q04 (wpAny_specialOf c hl ?_);have fin:wpAny c⁻¹ A (subscripted slice false o i) (λr b=>wpAny c⁻¹ A (letTemporaryGo value o r >>= λ_=>pure r) Q E b) E s₂:=by
  rw[hs o i];exact wpAny_operating (q0X a (λr b e=>q04 (wpAny_letTemporaryGo (q05 e))) λ_ _ x=>x)
 first
  |exact q05 (q04 fin)
  |exact q04 (q05 (q04 fin))
  |exact q04 fin
theorem vq{pins:LN}{σ:St}(I:Inv X pins σ H s)(g:lM H a y o):s.TypeIs (.ref a) "dict":=by
 rcases g with⟨c,k,e,_,_⟩ | ⟨c,k,b,e,_,_,_⟩
 ·obtain⟨_,_,vs,_,j⟩:=nv I.hok e
  exact j.typeIs
 ·obtain⟨_,_,xs,_,j⟩:=pC I.hok e
  exact j.typeIs
def AY(td ty:TE):TE:=λσ H Q=>td σ H λx H1=>ty σ H1 λy H2=>∃a v,x=.ref a/\lM H2 a y (some v)/\Q v H2
def EK(ty td:TE):TE:=λσ H Q=>ty σ H λy H1=>td σ H1 λx H2=>∃a o,x=.ref a/\lM H2 a y o/\Q (.bl o.isSome) H2
def tH(ty td:TE):TE:=λσ H Q=>ty σ H λy H1=>td σ H1 λx H2=>∃a o,x=.ref a/\lM H2 a y o/\Q (.bl (!o.isSome)) H2
def CI(td ty tv:TE):TS:=λD σ H=>tv σ H λv H1=>td σ H1 λx H2=>ty σ H2 λy H3=>∃a H4,x=.ref a/\yR H3 a y v H4/\D.nx σ H4
section
variable {X:Cx}{o i e value:Expr}{pos pos' tpos:Pos}{td ty tv:TE}
theorem lD(hu:X.A.units+1<cLine)(ho:PE X o td)(hi:PE X i ty)(hs:Gy i):PE X (.Subscript o i pos) (AY td ty):=by
 intro b s σ H Q I h;refine CU PySem.F.slot_dict_getitem.lookup hs (ci (ho b s σ H _ I h) λu j ⟨x,H1,r,l,n⟩=>ci (hi b j σ H1 _ r n) λiv s2 ⟨y,H2,e,k,a,v,p,g,m⟩=>?_);subst p;obtain rfl:u=Value.ref a:=l;exact⟨vq e g,zG hu e g k λw' s3 q c=>⟨v,H2,q,c,m⟩⟩
theorem Cd(hu:X.A.units+1<cLine)(hi:PE X i ty)(ho:PE X o td):PC X .In i o (EK ty td):=by
 intro b s σ H Q I h;refine ci (hi b s σ H _ I h) λiv c ⟨y,H1,r,e,l⟩=>ci (ho b c σ H1 _ r l) λu s2 ⟨x,H2,q,j,a,m,n,g,k⟩=>?_;subst n;obtain rfl:u=Value.ref a:=j;exact HF hu q g e λs3 p=>⟨.bl m.isSome,H2,p,rfl,k⟩
theorem jG(hu:X.A.units+1<cLine)(hi:PE X i ty)(ho:PE X o td):PC X .NotIn i o (tH ty td):=by
 intro b s σ H Q I h;refine ci (hi b s σ H _ I h) λiv c ⟨y,H1,r,e,l⟩=>ci (ho b c σ H1 _ r l) λu s2 ⟨x,H2,q,j,a,m,n,g,k⟩=>?_;subst n;obtain rfl:u=Value.ref a:=j;exact DA hu q g e λs3 p=>⟨.bl (!m.isSome),H2,p,rfl,k⟩
theorem tQ(hu:X.A.units+1<cLine)(ho:PE X o td)(hi:PE X i ty)(hv:PE X value tv)(hs:swapsWith value (some (.Subscript o i pos')) pos.line X.env=pure false) :
  PS X (.Assign [.Subscript o i pos'] value pos) (CI td ty tv):=by
 intro b s σ H D I h;refine wpAny_Assign_Subscript (ci (hv b s σ H _ I h) λr e ⟨v,H1,C,l,p⟩=>ci (ho b e σ H1 _ C p) λu c ⟨x,H2,B,k,n⟩=>ci (hi b c σ H2 _ B n) λiv s3 ⟨y,H3,z,j,a,G,q,g,m⟩=>?_) hs;subst q;obtain rfl:u=Value.ref a:=k;exact zV hu z g j l λs4 w=>⟨σ,G,w,m⟩
end
theorem uZ(h:Heap)(hb:sysModules<h.objs.size):cG P w H (h.push {cls:=.type "dict",data:=.dict #[]}) h.objs.size (.dK []):=
 ⟨Lc _,beq_eq_false_iff_ne.mpr (Ne.symm (K9 hb)),[],.nil,Heap.DictOf.new h⟩
theorem Bk(h:Heap)(hb:sysModules<h.objs.size):cG P w H (h.push {cls:=.type "dict",data:=.dict #[]}) h.objs.size (.dT []):=
 ⟨Lc _,beq_eq_false_iff_ne.mpr (Ne.symm (K9 hb)),[],.nil,_,#[],0,KU _ rfl,⟨rfl,rfl,rfl⟩,rfl,rfl,List.nodup_nil⟩
def ww:TE:=λ_ H Q=>∀p,H p=none->Q (.ref p) (aD H p (.dK []))
def wY:TE:=λ_ H Q=>∀p,H p=none->Q (.ref p) (aD H p (.dT []))
section
variable {X:Cx}{pos:Pos}
theorem uY:PE X (.Dict [] [] pos) ww:=λpins s σ H Q I h=>
 wpAny_Dict_empty ⟨.ref s.heap.objs.size,_,I.laid (a:=s.heap.objs.size) (o:=.dK []) (t':=s.toks) (λ_ _ q=>KN _ q) (Lb _) (uZ s.heap I.big),rfl,h _ (I.hok.fresh (Lb _))⟩
theorem Ay:PE X (.Dict [] [] pos) wY:=λpins s σ H Q I h=>
 wpAny_Dict_empty ⟨.ref s.heap.objs.size,_,I.laid (a:=s.heap.objs.size) (o:=.dT []) (t':=s.toks) (λ_ _ q=>KN _ q) (Lb _) (Bk s.heap I.big),rfl,h _ (I.hok.fresh (Lb _))⟩
end
def oS:List (TE×TE)->St->Hp->(List (V×V)->Hp->Prop)->Prop
 | [],_,H,Q=>Q [] H
 | (tk,tv)::r,σ,H,Q=>tk σ H λx H1=>tv σ H1 λy H2=>oS r σ H2 λps H3=>Q ((x,y)::ps) H3
abbrev VV:List (V×V)->List (Value×Value)->Prop:=Paired λp q=>bG p.1 q.1/\bG p.2 q.2
def G6(X:Cx)(pos:Pos)(keys:List (Option Expr))(values:L3)(trs:List (TE×TE)):Prop:=
 ∀(pins:LN) (s:LP) (σ:St) (H:Hp) (Q:List (V×V)->Hp->Prop),Inv X pins σ H s->oS trs σ H Q ->
  wpAny d⁻¹ X.A (evalPairs (pairTrees keys values X.env pos)) (λvs s'=>∃ps H',Inv X pins σ H' s'/\VV ps vs/\Q ps H') X.xe s
theorem DH{pos:Pos}:G6 X pos [] [] []:=λpins s σ H Q I h=>pairTrees_nil_walk ⟨[],H,I,.nil,h⟩
theorem A3{pos:Pos}{k v:Expr}{ks:List (Option Expr)}{tk tv:TE}{trs:List (TE×TE)}(hk:PE X k tk)(hv:PE X v tv)(hr:G6 X pos ks vs trs) :
  G6 X pos (some k::ks) (v::vs) ((tk,tv)::trs):=λpins s σ H Q I h=>
 pairTrees_cons_walk (ci (hk pins s σ H _ I h) λu s1 ⟨x,H1,I1,rx,q1⟩=>ci (hv pins s1 σ H1 _ I1 q1) λw2 s2 ⟨y,H2,I2,ry,q2⟩=>
  ci (hr pins s2 σ H2 _ I2 q2) λws s3 ⟨ps,H3,I3,rel,q3⟩=>⟨(x,y)::ps,H3,I3,.cons ⟨rx,ry⟩ rel,q3⟩)
def pJ(kvs more:List (c_×V)):List (c_×V):=more.foldl (λacc kv=>dL acc kv.1 kv.2) kvs
theorem KV.merge:∀{more:List (c_×V)} {rs:List (c_×Value)} {kvs:List (c_×V)} {vs:List (c_×Value)},KV more rs->KV kvs vs->KV (pJ kvs more) (merged vs rs):=by
 intro more rs kvs vs r;unfold KV at r
 induction r generalizing kvs vs with
 |nil=>intro q;exact q
 | @cons p q ps qs h t ih=>
  intro a;have e:KV (dL kvs p.1 p.2) (stored vs q.1 q.2):=by
   have:=a.put p.1 h.2;rw[<- h.1];exact this
  exact ih e
theorem j7:∀(more kvs:List (c_×V)),(pJ kvs more).length<=kvs.length+more.length
 | [],kvs=>by show kvs.length<=kvs.length+0;omega
 |p::r,kvs=>by
  have h1:=j7 r (dL kvs p.1 p.2);have h2:=gn kvs p.1 p.2;show(pJ (dL kvs p.1 p.2) r).length<=_;rw[K1];omega
theorem oH:∀{kvs:List (c_×V)} {ws:List (Value×Value)},VV (kvs.map λkv=>(kV kv.1,kv.2)) ws->∃rs,Carries (cj P w) ws rs/\KV kvs rs
 | [],_,r=>by rw[List.map_nil]at r;cases r;exact⟨[],True.intro,.nil⟩
 |p::kvs,_,r=>by
  rw[Lh]at r;cases r with
  | @cons a b as bs h t=>
   obtain⟨rs,c,q⟩:=oH (P:=P) (w:=w) t;obtain⟨b1,b2⟩:=b;exact⟨(p.1,b2)::rs,⟨m9 h.1,rfl,c⟩,.cons ⟨rfl,h.2⟩ q⟩
def A5(trs:List (TE×TE)):TE:=λσ H Q=>∀p,H p=none->oS trs σ (aD H p (.dK [])) λps H2=>H2 p=some (.dK [])/\∃kvs:List (c_×V),ps=kvs.map (λkv=>(kV kv.1,kv.2))/\kvs.length<=15/\Q (.ref p) (aD H2 p (.dK (pJ [] kvs)))
theorem CV{pos:Pos}{keys:List (Option Expr)}{values:L3}{trs:List (TE×TE)}(h:G6 X pos keys values trs)(hall:keys.all (·.isSome)=true)(hl:keys.length=values.length)(h0:keys≠[])
  (h15:keys.length<=15):PE X (.Dict keys values pos) (A5 trs):=by
 intro b s σ H Q I q;have v:=I.hok.fresh (Lb s.heap.objs.size);have D:=I.laid (a:=s.heap.objs.size) (o:=.dK []) (h':=s.heap.push {cls:=.type "dict",data:=.dict #[]}) (t':=s.toks) (λ_ _ q=>KN _ q) (Lb _) (uZ s.heap I.big);refine wpAny_Dict_walk (knd:=cj X.prog X.w) hall hl h0 h15 (ci (h b _ σ _ _ D (q _ v)) λws s2 ⟨ps,H2,l,k,e,g,B,lk,p⟩=>?_);subst B;obtain⟨m,c,rk⟩:=oH (P:=X.prog) (w:=X.w) k;obtain⟨z,y,vs0,n,C⟩:=rU l.hok e;cases n;refine⟨m,c,C,λh' j u=>⟨.ref s.heap.objs.size,_,?_,rfl,p⟩⟩;have r:(pJ [] g).length<=sizeLine:=by
  have h1:=j7 g [];rw[List.length_nil]at h1;rw[q0W];omega
 have x:∃q,h'.get? s.heap.objs.size=some q:=let ⟨q,_,_,hq,_⟩:=j;⟨q,hq⟩
 exact nY l (by rw[e];exact True.intro) u x (xb r y (rk.merge .nil) j)
structure M1(X:Cx)(o:Expr)(m:Str)(apos:Pos)(e:Expr)(cpos:Pos):Prop where
 base:attributeBase o m X.env (eval o X.env)=eval o X.env
 few:((backTo cpos (starEach [e] X.env)).all (λx=>!x.1)&&(backToKw cpos (keywordEach [] X.env)).all (λx=>x.1.isSome)
  && decide (([e]:List Expr).length+([]:List Keyword).length+(if([]:List Keyword).isEmpty then 0 else 1)<30))=true
 line:(apos.endLine==cpos.line)=true
 trees:backTo cpos (starEach [e] X.env)=[(false,eval e X.env)]
structure M2(X:Cx)(o:Expr)(m:Str)(apos:Pos)(e f:Expr)(cpos:Pos):Prop where
 base:attributeBase o m X.env (eval o X.env)=eval o X.env
 few:((backTo cpos (starEach [e,f] X.env)).all (λx=>!x.1)&&(backToKw cpos (keywordEach [] X.env)).all (λx=>x.1.isSome)
  && decide (([e,f]:List Expr).length+([]:List Keyword).length+(if([]:List Keyword).isEmpty then 0 else 1)<30))=true
 line:(apos.endLine==cpos.line)=true
 trees:backTo cpos (starEach [e,f] X.env)=[(false,eval e X.env),(false,eval f X.env)]
def GZ(H:Hp)(a:Addr):Prop:=(∃kvs,Rd H a (.dK kvs))\/∃kvs,Rd H a (.dT kvs)
theorem wy{pins:LN}{σ:St}(I:Inv X pins σ H s)(d:GZ H a) :
  s.TypeIs (.ref a) "dict"/\(∀b,Value.ref a=.ref b->∃ob,s.heap.get? b=some ob/\ob.dict=none)/\(a==sysModules)=false:=by
 rcases d with⟨g,e⟩ | ⟨g,e⟩
 ·obtain⟨_,j,vs,_,c⟩:=nv I.hok e
  refine⟨c.typeIs,λb q=>?_,j⟩;cases q;obtain⟨ob,_,_,h1,h2,_⟩:=c;exact⟨ob,h1,h2.2.1⟩
 ·obtain⟨_,j,xs,_,c⟩:=pC I.hok e
  refine⟨c.typeIs,λb q=>?_,j⟩;cases q;obtain⟨ob,_,_,h1,h2,_⟩:=c;exact⟨ob,h1,h2.2.1⟩
section
variable {X:Cx}{pins:LN}{σ:St}{H:Hp}{s:LP}{a:Addr}{y d:V}{u r:Value}{o:Option V}{A:LX}{E:LL}
theorem Ff{Q:LL}(hu:A.units+1<cLine)(I:Inv X pins σ H s)(g:lM H a y o)(ry:bG y u)(h:∀w' s',Inv X pins σ H s'->bG (o.getD .non) w'->Q w' s') :
  wpAny d⁻¹ A (call (.builtin "dict.get") [.ref a,u]) Q E s:=by
 rcases g with⟨m,k,e,p,l⟩ | ⟨m,k,b,e,p,r,l⟩
 ·subst p
  obtain⟨z,n,vs,c,j⟩:=nv I.hok e;refine call_meetsIn PySem.F.slot_dict_get j.typeIs PySem.F.entry_dict_get (PySem.F.args_dict_get_2 _ _) (meets_dict_get (cj X.prog X.w) a (m9 ry) n) ⟨_,j.mapOf,h _ _ (I.tok _) ?_⟩;rw[l];exact(c.val k).getD rfl
 ·subst p
  cases(show u=Value.ref b from ry);obtain⟨z,n,q,c,j⟩:=pC I.hok e;refine call_meetsIn PySem.F.slot_dict_get j.typeIs PySem.F.entry_dict_get (PySem.F.args_dict_get_2 _ _) (meetsH_dict_get (tupleKind (cj X.prog X.w)) a b n) ⟨tupleKind_room_in1 hu,k,q,lV I.hok r,j,h _ _ (I.tok _) ?_⟩;rw[l];exact(c.val k).getD rfl
end
def xP(td ty:TE):TE:=λσ H Q=>td σ H λx H1=>∃a,x=.ref a/\GZ H1 a/\ty σ H1 λy H2=>∃o,lM H2 a y o/\Q (o.getD .non) H2
section
variable {X:Cx}{o e f:Expr}{apos cpos:Pos}{td ty tx:TE}
theorem AK(hu:X.A.units+1<cLine)(ho:PE X o td)(he:PE X e ty)(m:M1 X o "get" apos e cpos):PE X (.Call (.Attribute o "get" apos) [e] [] cpos) (xP td ty):=by
 intro b s σ H Q I h;refine wpAny_Call_method m.base m.few m.line PySem.F.plainAttrs_dict PySem.F.slot_dict_get PySem.F.type_dict_get (ci (ho b s σ H _ I h) λu n ⟨x,H1,j,q,a,w,d,v⟩=>?_);subst w;obtain rfl:u=Value.ref a:=q;obtain⟨l,k,_⟩:=wy j d;refine⟨l,k,?_⟩;rw[m.trees];refine Calls.callWith_builtin rfl (Calls.evalArgs_plain (Calls.spliced_cons (ci (he b n σ H1 _ j v) λiv s2 ⟨y,H2,B,p,ov,g,r⟩=>Calls.spliced_nil ?_)));exact Ff hu B g p λw' s3 z c=>⟨_,H2,z,c,r⟩
end
end L2
namespace Att
open PySem PySem.W PySem.Calls PyProof.Rows
theorem nK:∀(ns:List Int) (vs:LQ),WellAll P h vs (ns.map WData.int)->IntsAre vs ns:=by
 intro ns
 induction ns with
 |nil=>
  intro vs w;rw[List.map_nil]at w;cases w;exact .nil
 |cons n ns ih=>
  intro vs w;rw[Lh]at w;cases w with
  |cons a b=>
   cases a;exact .cons _ _ (ih _ b)
theorem zu{l:OpenLaw}{n:Nat}(hn:l.most=some n){P:Params}{h:Heap}{args:List WData}{vals:LQ}
  (hpre:l.row.toRowW.claim.pre args=true) (hwl:WellAll P h vals args) :
  ∃a vs ns,vals=[Value.ref a]/\args=[WData.list (ns.map WData.int)]/\h.get? a=some {cls:=.type "list",data:=.seq vs.toArray}/\IntsAre vs ns/\ns.length<=n:=by
 have g:WShape.hasAll [] args [.list .int]=true:=(pre_splitW hpre).1;have j:l.pre.holds [] {args:=args}=true:=(pre_splitW hpre).2;obtain⟨d,r,rfl,h1,h2⟩:=hasAllW_cons g;obtain rfl:=hasAllW_nil h2;obtain⟨xs,rfl,m⟩:=hasW_list h1;obtain⟨ns,rfl⟩:=items_int m;have b:ns.length<=n:=by
  unfold OpenLaw.pre at j;have e:(WTm.not (.lt (.lit (.int (n:Int))) (.len (.arg 0)))).holds [] {args:=[.list (ns.map .int)]}=true:=by
   have e:=(holds_andW j).1;rw[hn]at e;exact e
  have c:=condW_of e (w_not (w_lt w_lit (w_len_list (w_arg rfl))));rw[KO]at c;refine Nat.le_of_not_lt λq=>?_;have k:(n:Int)<((ns.length:Nat):Int):=by omega
  first
   | (rw[q09 k]at c;exact q0Q c b⁻¹)
   | (simp at c;omega)
 cases hwl with
 |cons w1 w2=>
  cases w2;cases w1 with
  |list ho hall=>exact⟨_,_,ns,rfl,rfl,ho,nK ns _ hall,b⟩
theorem zh(l:OpenLaw)(args:List WData):l.row.toRowW.claim.post args (.bool true) args=true:=
 postW_of (r:=l.row.toRowW) (X:=(true==true))
  (show WShape.has [] (.bool true) .bool=true by first | rfl | decide | simp[WShape.has,WShape.arms,WShape.armsAll])
  (show(WTm.eq .res (.lit (.bool true))).value [] {args:=args,res:=some (.bool true),after:=args}=some (.bool (true==true)) from w_eq_bool (w_res rfl) w_lit) rfl
theorem attach_call{l:OpenLaw}{n:Nat}{loose:LW}{XP:(Str->Option Value)->Heap->Prop}{YP:World->Heap->Prop}{d:DefRec}
  (hn:l.most=some n) (hdf:d.params.defaults=[])
  (call:∀(w:LY) (s₀ s₁:LP) (mg mb:LS) (fa:Addr) (o:Obj) (pm cd doc:Value) (a:Addr) (vs:LQ) (ns:List Int),
   Ground q loose [] XP w s₀ mg mb s₁.heap->YP w s₁.heap ->
   s₁.heap.get? fa=some o->o.data=.func (docDef d.name d.params d.body d.scope pm cd doc)->s₁.heap.CodeRec cd d.name->mg d.name=some (.ref fa) ->
   s₁.heap.get? a=some {cls:=.type "list",data:=.seq vs.toArray}->IntsAre vs ns->ns.length<=n->s₁.gens=#[] ->
   codeAny (model l.prog w) callerA (.call (.ref fa) ⟨[.ref a],[]⟩) (λr s'=>r=.ok (.ret (.bool true))/\OldK s₁.heap s'.heap/\s'.os=s₁.os/\AllBare s'.gens) s₁) :
  WalkO q loose XP YP l.row.toRowW d [] (λf vs=>PySem.call f vs):=by
 intro w s₀ s₁ mg mb G Y fa o pm cd doc D kV v z m p k y args vals as c hlay hrd j hlo;obtain rfl:D=.none:=Dflts.none p hdf;obtain rfl:kV=.none:=Dflts.noKw p;obtain⟨a,vs,ns,rfl,rfl,e,b,g⟩:=zu hn c j;refine enter_call (codeAny_mono (call w s₀ s₁ mg mb fa o pm cd doc a vs ns G Y v (fd_plain z) m k e b g y) λr s' u=>?_);obtain⟨rfl,h2,C,B⟩:=u;exact⟨.inl ⟨.bool true,.bool true,[],rfl,λ_=>rfl,.bool true,zh l _,λ_=>⟨List.Pairwise.nil,λ_ x=>(nomatch x)⟩⟩,h2,C,B⟩
section
variable {prog:LV}{w:LY}{A:LX}{E:LL}{s:LP}{K:Frag}
end
end Att
namespace L2
open PySem PySem.Spec PyProof.Rows
theorem qU:∀{vs:LQ} {ns:List Int},IntsAre vs ns->bh (ns.map V.int) vs
 |_,_,.nil=>.nil
 |_,_,.cons n t h=>.cons ⟨t,rfl⟩ (qU h)
def Fr(H:Hp):Prop:=∀b,H b=none\/∃o xs,H b=some (.frz o (.lst xs))
theorem BJ{K:LM}{mg mb:LS}{CX:j9}{fa a:Addr}{x:Str}{sp:Sp}{s₁:LP}{vs:LQ}{ns:List Int}
  (KX:K.In s₁.heap) (hns:s₁.heap.Ns mainGlobals mg) (hb:s₁.heap.Ns builtinsNs mb) (hbb:∀x:Str,x≠"__name__"->mb x=bootBuiltins x) (hlim:s₁.heap.NoLimit) (hg:s₁.gens=#[])
  (ha:s₁.heap.get? a=some {cls:=.type "list",data:=.seq vs.toArray}) (hi:IntsAre vs ns) (hl:ns.length<=sizeLine) (hr:cQ k callerA)
  (F:∀base:Heap,K.In base->base.Ns mainGlobals mg->bj P w K mg base CX k fa fd [x] sp) (hbind:∀(s:LP) (u:Value),BindsTo s fd ⟨[u],[]⟩ [(x,u)])
  (hsp:∀H:Hp,Fr H->aQ K H a (ns.map V.int)->sp [.ref a] H (λv _=>v=.bl true) λ_ _ _=>False)
  (hCX:∀H e s',CX [] H s₁ (λ_ _ _=>False) e s'->False) :
  codeAny (model P w) callerA (.call (.ref fa) ⟨[.ref a],[]⟩) (λr s'=>r=.ok (.ret (.bool true))/\OldK s₁.heap s'.heap/\s'.os=s₁.os/\AllBare s'.gens) s₁:=by
 have L:=qU hi;have p:=hi.length
 -- from an abstract heap in which nothing but the script may be tracked
 have j:∀H:Hp,Fr H->aQ K H a (ns.map V.int)->kr P w H s₁.heap->(∀b,H b≠none->b=a)->(H a≠none->K.lookup a=none) ->
   codeAny (model P w) callerA (.call (.ref fa) ⟨[.ref a],[]⟩) (λr s'=>r=.ok (.ret (.bool true))/\OldK s₁.heap s'.heap/\s'.os=s₁.os/\AllBare s'.gens) s₁:=by
  intro H M Z B O hK;have c:∀{b:Addr} {o:Obj},s₁.heap.get? b=some o->H b=none->(ug s₁.heap H).get? b=some o:=λe n=>A7 e n;have G:∀{b:Addr} {o:Obj} {es:Array DictEntry} {ep:Nat},s₁.heap.get? b=some o->o.data=.dict es ep->H b=none:=fun{b o es ep} e d=>by
   cases q:H b with
   |none=>rfl
   |some u=>
    have J:b=a:=O b (by rw[q];simp);subst J;rw[ha]at e;cases e
    have d':Data.seq vs.toArray _=Data.dict es ep:=d;cases d'
  have g:∀{b:Addr} {m:LS},s₁.heap.Ns b m->(ug s₁.heap H).Ns b m:=fun{b m} ⟨o,es,ep,e,d,r⟩=>⟨o,es,ep,c e (G e d),d,r⟩;have C:K.In (ug s₁.heap H):=λb o e=>c (KX b o e) (by
   cases q:H b with
   |none=>rfl
   |some u=>
    have J:b=a:=O b (by rw[q];simp);subst J;rw[hK (by rw[q];simp)]at e;cases e)
  have hM:Mod K mg (ug s₁.heap H):=⟨C,g hns,⟨mb,g hb,hbb⟩,let ⟨mc,h1,h2⟩:=hlim;⟨mc,g h1,h2⟩⟩;have e0:pT P w K mg (ug s₁.heap H) callerA [] s₁ H:=⟨rfl,hM,λb o e=>De e,Nat.le_of_eq (zO _ _),trivial,λb hb=>q0Q (show b∈([]:List Addr) from hb) (by simp),B,.of_eq hg⟩;refine codeAny_mono ((F _ C (g hns)).run callerA [] s₁ H ⟨[.ref a],[]⟩ [.ref a] [.ref a] _ _ hr e0 (hbind s₁ (.ref a)) (.cons rfl .nil) (hsp H M Z)) λr s' h=>?_;cases r with
  |error e=>exact(hCX H e s' h).elim
  |ok fl=>
   cases fl with
   |next=>exact False.elim h
   |brk=>exact False.elim h
   |cont=>exact False.elim h
   |ret u=>
    obtain⟨v,H',os,D,un,y,T,q⟩:=h;have U:v=.bl true:=q;subst U;obtain rfl:u=Value.bool true:=T;refine⟨rfl,OldK.of_keep λb o e=>?_,os,D⟩;cases q:H b with
    |none=>exact un.keep b o e q (by intro z;exact q0Q (show b∈([]:List Addr) from z) (by simp)) (by simp)
    |some u=>
     rcases M b with z | ⟨Y,xs,z⟩
     ·rw[q]at z;cases z
     ·have S:=un.frzs b Y _ z
      obtain⟨R,_⟩:=B b _ z;obtain⟨e2,_⟩:=y b _ S;rw[e]at R;cases R
      exact e2
 cases I:K.lookup a with
 |some o=>
  -- the script is one of the module's own objects
  have e:=KX a o I;rw[ha]at e;cases e;refine j (λ_=>none) (λ_=>.inl rfl) (.inr ⟨_,vs.toArray,_,I,rfl,rfl,rfl,by rw[KW,p];exact hl,by simpa using L⟩) (λb u z=>by have l:(none:Option HO)=some u:=z;cases l) (λb z=>q0Q rfl z) λz=>q0Q rfl z
 |none=>
  refine j (λb=>if b=a then some (.frz {cls:=.type "list",data:=.seq vs.toArray} (.lst (ns.map V.int))) else none) (λb=>?_) (.inl (.inr ⟨{cls:=.type "list",data:=.seq vs.toArray},q07 rfl⟩)) (λb u z=>?_) (λb z=>?_) λ_=>I
  ·by_cases hb:b=a
   ·exact .inr ⟨_,_,q07 hb⟩
   ·exact .inl (q06 hb)
  ·by_cases hb:b=a
   ·have l:=(q07 hb).symm.trans z
    cases l;subst hb;exact⟨ha,by rw[KO];exact hl,vs,_,L,ha⟩
   ·have l:=(q06 hb).symm.trans z
    cases l
  ·by_cases hb:b=a
   ·exact hb
   ·exact q0Q (q06 hb) z
theorem walk_of{l:PySem.W.OpenLaw}{n:Nat}{loose:LW}{XP:(Str->Option Value)->Heap->Prop}{YP:World->Heap->Prop}{d:DefRec}{K:Params->PySem.W.Frag}{CX:World->j9}{sp:World->Sp}{x:Str}
  (hn:l.most=some n) (hn2:n<=sizeLine) (hdf:d.params.defaults=[]) (hr:cQ k callerA)
  (hY:∀(w:LY) (h:Heap),YP w h->(K w.params).In h)
  (F:∀(w:LY) (mg:LS) (fa:Addr) (h:Heap),(K w.params).In h->h.Ns mainGlobals mg->mg d.name=some (.ref fa) ->
   ∃fd:FuncData,(∀(s:LP) (u:Value),BindsTo s fd ⟨[u],[]⟩ [(x,u)]) /\
    ∀base:Heap,(K w.params).In base->base.Ns mainGlobals mg->bj l.prog w (K w.params) mg base (CX w) k fa fd [x] (sp w))
  (hsp:∀(w:LY) (H:Hp) (a:Addr) (ns:List Int),ns.length<=n->Fr H->aQ (K w.params) H a (ns.map V.int)->sp w [.ref a] H (λv _=>v=.bl true) λ_ _ _=>False)
  (hCX:∀(w:LY) (H:Hp) (s:LP) (e:Value) (s':LP),CX w [] H s (λ_ _ _=>False) e s'->False) :
  PySem.W.WalkO q loose XP YP l.row.toRowW d [] (λf vs=>PySem.call f vs):=by
 refine Att.attach_call hn hdf λw s₀ y mg mb fa o pm cd doc a vs ns G Y ho hd hcd p m j c z=>?_;have r:=hY w _ Y;obtain⟨fd,B,I⟩:=F w mg fa _ r G.T.g p;exact BJ r G.T.g G.T.b G.T.builtins G.T.nolimit z m j (Lj c hn2) hr I B (λH D C=>hsp w H a ns c D C) λH e s'=>hCX w H y e s'
def cY(s:Stmt):Arguments:=match s with
 | .FunctionDef _ a _ _ _ _ _ _ _ _=>a
 |_=>{posonlyargs:=[],args:=[],vararg:=none,kwonlyargs:=[],kw_defaults:=[],kwarg:=none,defaults:=[]}
def cI(s:Stmt):List Stmt:=match s with
 | .FunctionDef _ _ b _ _ _ _ _ _ _=>b
 |_=>[]
def aq(s:Stmt):Scope:=match s with
 | .FunctionDef _ _ _ _ _ _ sc _ _ _=>sc
 |_=>{kind:=.function,names:=[],isGenerator:=false,isCoroutine:=false}
abbrev bu:j9:=λ_ _ _ _ _ _=>False
abbrev E0:XK:=λ_ _ _=>False
theorem aK:dC bu X E0:=λ_ _ _ _ _ _ _ h=>h.elim
structure dG(K:LM)(x qual:Str)(st:Stmt)(f:Addr)(fd:LU):Prop where
 ex:∃(oc:Value) (od:LZ) (kV doc pm:Value) (an:LZ) (cdv ct:Value) (osl:Array (Option Value)),
  fd=PySem.W.fnOf x qual (cY st) (cI st) (aq st) .none kV doc pm an cdv ct/\K.lookup f=some ⟨oc,od,.func fd,osl⟩/\PySem.W.codeIn K cdv qual=true
 kp:PySem.W.keepIn K (.ref f)=true
section
variable {P:LV}{w:LY}{K:LM}{mg:LS}{base:Heap}
theorem dG.ok{qual:Str}{st:Stmt}{f:Addr}{ps:LW}{sp:Sp}(F:dG K x qual st f fd)(S:aG N ps (aq st))(len:∀vs H Q E,sp vs H Q E->vs.length=ps.length)
  (hbody:∀(cdv:Value) (A:LX) (outer:List Env) (s:LP) (H:Hp) (vs:List V) (Q:VK) (E:XK),cQ k (A.deeper (envOfC qual (aq st) s.heap.objs.size f cdv))->sp vs H Q E ->
   ∃t,wg (tS bu P w K mg base N qual (aq st) f cdv A outer s H E).nox (cI st) t/\t {nx:=λ_ H'=>Q .non H',rt:=Q} (start N vs) H):↑bj (k+1) f fd ps sp:=by
 obtain⟨oc,od,kV,doc,pm,an,cdv,ct,osl,rfl,c,b⟩:=F.ex;refine En c b S len λA outer s H vs Q E hr a=>?_;obtain⟨t,h,q⟩:=hbody cdv A outer s H vs Q E hr a;exact⟨t,h.nox,q⟩
theorem dG.binds{qual:Str}{st:Stmt}{f:Addr}{ps:LW}(F:dG K x qual st f fd)
  (h:∀(kV doc pm:Value) (an:LZ) (cdv ct:Value) (us:LQ),us.length=ps.length->bindArgs (PySem.W.fnOf x qual (cY st) (cI st) (aq st) .none kV doc pm an cdv ct) ⟨us,[]⟩=pure (ps.zip us)):dO K fd ps []:=by
 obtain⟨oc,od,kV,doc,pm,an,cdv,ct,osl,rfl,lk,hcd⟩:=F.ex;exact .all (h kV doc pm an cdv ct)
theorem cX{qual:Str}{st:Stmt}{f:Addr}{oc:Value}{od an:LZ}{osl:Array (Option Value)}{kV doc pm cdv ct:Value}(l:K.lookup f=some ⟨oc,od,.func (PySem.W.fnOf x qual (cY st) (cI st) (aq st) .none kV doc pm an cdv ct),osl⟩)
  (c:PySem.W.codeIn K cdv qual=true) (k:PySem.W.keepIn K (.ref f)=true):dG K x qual st f (PySem.W.fnOf x qual (cY st) (cI st) (aq st) .none kV doc pm an cdv ct):=⟨⟨oc,od,kV,doc,pm,an,cdv,ct,osl,rfl,l,c⟩,k⟩
end
section
variable {X:Cx}
theorem pv(i:Nat){x:Str}{pos:Pos}(hN:autoParam (X.N[i]?=some x) zz0._auto_1)(hv:autoParam (GX X.env.scope x) zz6._auto_1)(hd:autoParam g⁻¹ zz1._auto_1)
  (hcd:autoParam ((x==("__classdict__":Str))=false) zz1._auto_1):PE X (.Name x pos) (CF i):=FU hN hv hd hcd
theorem Aa:g7 X (.builtin "len") (λxs H Q=>∃a kvs,xs=[V.ref a]/\H a=some (.dK kvs)/\Q (.int kvs.length) H):=by
 intro pins s σ H xs us Q I r h;obtain⟨a,kvs,rfl,c,q⟩:=h;obtain⟨u,rfl,b⟩:=vX r;cases b;exact Gd I (.inl c) λt s' e=>⟨.int kvs.length,H,e,⟨t,rfl⟩,q⟩
end
def az(H H':Hp):Prop:=∀b o,H b=some o->H' b=some o
theorem az.refl(H:Hp):az H H:=λ_ _ h=>h
theorem az.trans{H1 H2:Hp}(a:az H H1)(b:az H1 H2):az H H2:=λc o h=>b c o (a c o h)
theorem az.free(e:az H H'){l:Addr}(h:H' l=Option.none):H l=Option.none:=by
 cases q:H l with
 |none=>rfl
 |some o=>
  rw[e l o q]at h;cases h
theorem az.seq{K:LM}(e:az H H')(h:aQ K H a xs):aQ K H' a xs:=by
 rcases h with(h | ⟨o,h⟩) | h
 ·exact .inl (.inl (e _ _ h))
 ·exact .inl (.inr ⟨o,e _ _ h⟩)
 ·exact .inr h
section
variable {κ:Type}[DecidableEq κ]
theorem Cs{kvs:List (κ×V)}{k:κ}(h:dS kvs k=none):¬ k∈kvs.map (·.1):=by
 intro m;obtain⟨p,b,e⟩:=Lx.mp m;have q:(kvs.any λa=>decide (a.1=k))=true:=List.any_eq_true.mpr ⟨p,b,q09 e⟩;rw[hX,h]at q;exact q0Q q (by simp)
end
end L2
namespace PySem
open Sem (wp)
open Builtin Builtin.Str Builtin.Int
namespace F
theorem mU:Manifest.owners.lookup "reversed"=some Manifest.sig_reversed:=by kernel_rfl
theorem slot_rvs_next:Slot "reversed" "__next__" "reversed.__next__":=
 .of (owner:="reversed") (n:="__next__") (by rw[typeLookup_type,builtinLookup_eq_fast];kernel_rfl) (by decide +kernel) (by decide +kernel) (by decide +kernel)
  (by first | exact .inl (by decide +kernel) | exact .inr (by decide +kernel)) (by rw[isSubtype_type];kernel_rfl)
theorem entry_rvs_next:entryFor table "reversed.__next__"=some Builtin.«reversed.__next__»:=entryFor_of_tree f⁻¹
theorem slot_rvs_iter:Slot "reversed" "__iter__" "reversed.__iter__":=
 .of (owner:="reversed") (n:="__iter__") (by rw[typeLookup_type,builtinLookup_eq_fast];kernel_rfl) (by decide +kernel) (by decide +kernel) (by decide +kernel)
  (by first | exact .inl (by decide +kernel) | exact .inr (by decide +kernel)) (by rw[isSubtype_type];kernel_rfl)
theorem nolen_rvs:typeLookup (.type "reversed") "__len__"=pure none:=by rw[typeLookup_type,builtinLookup_eq_fast];kernel_rfl
theorem hint_rvs:typeLookup (.type "reversed") "__length_hint__"=pure (some (.builtin "reversed.__length_hint__")):=by rw[typeLookup_type,builtinLookup_eq_fast];kernel_rfl
theorem args_rvs_next_1(a:Value):argsOk "reversed.__next__" ⟨[a],[]⟩:=by
 unfold argsOk;rw[signature?_of (id:="reversed.__next__") (n:=['_','_','t','x','e','n','_','_']) (o:=['d','e','s','r','e','v','e','r']) f⁻¹ mU];kernel_rfl
theorem args_rvs_iter_1(a:Value):argsOk "reversed.__iter__" ⟨[a],[]⟩:=by
 unfold argsOk;rw[signature?_of (id:="reversed.__iter__") (n:=['_','_','r','e','t','i','_','_']) (o:=['d','e','s','r','e','v','e','r']) f⁻¹ mU];kernel_rfl
theorem entry_rvs_iter:entryFor table "reversed.__iter__"=some Builtin.«dict_keyiterator.__iter__»:=
 entryFor_alias (id':="dict_keyiterator.__iter__") f⁻¹ (by first | rfl | decide +kernel | (unfold String.splitOn;simp +decide [String.splitOnAux])) (by decide +kernel) f⁻¹
theorem slot_rvs_hint:Slot "reversed" "__length_hint__" "reversed.__length_hint__":=
 .of (owner:="reversed") (n:="__length_hint__") (by rw[typeLookup_type,builtinLookup_eq_fast];kernel_rfl) (by decide +kernel) (by decide +kernel) (by decide +kernel)
  (by first | exact .inl (by decide +kernel) | exact .inr (by decide +kernel)) (by rw[isSubtype_type];kernel_rfl)
theorem entry_rvs_hint:entryFor table "reversed.__length_hint__"=some Builtin.«reversed.__length_hint__»:=entryFor_of_tree f⁻¹
theorem args_rvs_hint_1(a:Value):argsOk "reversed.__length_hint__" ⟨[a],[]⟩:=by
 unfold argsOk;rw[signature?_of (id:="reversed.__length_hint__") (n:=['_','_','t','n','i','h','_','h','t','g','n','e','l','_','_']) (o:=['d','e','s','r','e','v','e','r']) f⁻¹ mU];kernel_rfl
end F
section
variable {prog:LV}{w:LY}{A:LX}{E:LL}{s:LP}
def xy(x:Str)(t:Tok)(i:Int):Obj:={cls:=.type "reversed",data:=.fields #[.str x t,rawInt i]}
def Heap.IsRvs(h:Heap)(a:Addr)(x:Str)(t:Tok)(i:Int):Prop:=∃o,h.get? a=some o/\o.cls=.type "reversed"/\o.data=.fields #[.str x t,rawInt i]
theorem Heap.IsRvs.typeIs{t:Tok}{i:Int}(y:s.heap.IsRvs a x t i):s.TypeIs (.ref a) "reversed":=let ⟨o,ho,hc,_⟩:=y;⟨o,ho,hc⟩
theorem Heap.IsRvs.at{h h':Heap}{t:Tok}{i:Int}(y:h.IsRvs a x t i)(e:∀o,h.get? a=some o->h'.get? a=some o):h'.IsRvs a x t i:=let ⟨o,ho,r⟩:=y;⟨o,e _ ho,r⟩
theorem iZ{it:Addr}{t:Tok}{i c:Nat}{Q:Option Value->Shared->Prop}(hit:s.heap.IsRvs it x t (i:Int))(hx:x.cps[i]?=some c)(hsz:i<2 ^ 63)
  (hQ:∀h' tk tk',h'.IsRvs it x t ((i:Int)-1)->Heap.SameBut it s.heap h'->Q (some (.str ⟨#[c]⟩ tk)) {s with heap:=h',toks:=tk' }):wpAny c⁻¹ A (pyNext (.ref it)) Q E s:=by
 obtain⟨o,g,l,b⟩:=id hit;have j:i<x.length:=(Array.getElem?_eq_some_iff.mp hx).1;unfold pyNext;refine q04 (wpAny_attempt (wpAny_callSpecial?_slot (name:=Str.ofString "__next__") hit.typeIs F.slot_rvs_next
  (wpAny_call_entry F.slot_rvs_next hit.typeIs F.entry_rvs_next ?_ (F.args_rvs_next_1 _))))
 unfold Builtin.«reversed.__next__»;refine q04 (wpAny_of_eq (a:=(Value.ref it,[])) rfl ?_)
 try dsimp only
 refine q04 (wpAny_field g b (x:=.str x t) rfl ?_);refine q04 (wpAny_field g b (x:=rawInt (i:Int)) rfl ?_);show wpAny _ _ (if(i:Int)<0 then _ else _) _ _ s;rw[q06 ⋯];refine q04 (wpAny_specialOf (typeIs_str s x t) F.slot_str_getitem.lookup ?_)
 try dsimp only
 first
 |rw[q06 (show ¬ ((some (Value.builtin "str.__getitem__")).isNone=true) from Ld)]
 |skip
 refine q04 (wpAny_mkInt ?_);refine q04 (wpAny_attempt ?_);have m:(seqIndex? (i:Int) x.length).bind (x.cps[·]?)=some c:=by
  have e:seqIndex? (i:Int) x.length=some i:=by
   have k:¬ ((i:Int)<0):=by omega
   unfold seqIndex?;simp[k,j]
  rw[e];exact hx
 refine P.getItem_str (c:=c) (by simp;omega) m ?_;dsimp only;refine q04 (wpAny_field g b (x:=rawInt (i:Int)) rfl ?_);show wpAny _ _ (setField (Value.ref it) 1 (rawInt ((i:Int)-1)) >>= λ_=>ret (Value.str ⟨#[c]⟩ _)) _ _ _;refine q04 (wpAny_setField g b (by simp) ?_);refine q05 ⟨_,rfl,q05 (hQ _ _ _ ?_ (Heap.SameBut.update ..))⟩;exact⟨_,K0 _ g (Obj.isFreed_of_fields (Obj.data_mapFields b _)),(Obj.cls_mapFields ..).trans l,by
  rw[Obj.data_mapFields b];simp⟩
theorem jf{it:Addr}{t:Tok}{Q:Option Value->Shared->Prop}(hh:A.handled=none)(hit:s.heap.IsRvs it x t (-1))
  (hQ:∀h',Heap.ExtBut it s.heap h'->Q none {s with heap:=h' }):wpAny c⁻¹ A (pyNext (.ref it)) Q E s:=by
 obtain⟨o,e,hc,c⟩:=id hit;unfold pyNext;refine q04 (wpAny_attempt (wpAny_callSpecial?_slot (name:=Str.ofString "__next__") hit.typeIs F.slot_rvs_next
  (wpAny_call_entry F.slot_rvs_next hit.typeIs F.entry_rvs_next ?_ (F.args_rvs_next_1 _))))
 unfold Builtin.«reversed.__next__»;refine q04 (wpAny_of_eq (a:=(Value.ref it,[])) rfl ?_)
 try dsimp only
 refine q04 (wpAny_field e c (x:=.str x t) rfl ?_);refine q04 (wpAny_field e c (x:=rawInt (-1)) rfl ?_);show wpAny _ _ (if(-1:Int)<0 then _ else _) _ _ s;rw[q07 b⁻¹];refine q04 (wpAny_rule ?_);show wpAny _ _ ((setField (Value.ref it) 1 (rawInt (-1)) >>= λ_=>setField (Value.ref it) 0 .none) >>= _) _ _ _;refine q04 (q04 (wpAny_setField e c (by simp) ?_));have g:=K0 (Obj.mapFields (·.setIfInBounds 1 (rawInt (-1)))) e (Obj.isFreed_of_fields (Obj.data_mapFields c _));refine wpAny_setField g (Obj.data_mapFields c _) (by simp) ?_;dsimp only;show wpAny _ _ (SmallTypes.stopIteration >>= _) _ _ _;refine q04 ?_;unfold SmallTypes.stopIteration
 first
 |show wpAny _ _ (newExc (.type "StopIteration") [] >>= _) _ _ _
 | (refine q04 ?_;show wpAny _ _ (newExc (.type "StopIteration") [] >>= _) _ _ _)
 refine q04 ?_;simp only[newExc,newTuple];refine q04 (wpAny_newObj_type ?_ (by size_fits));refine q04 (m:=firstArgMember _ _) (wpAny_of_eq (a:=Value.none) (by first | rfl | (simp only[firstArgMember];rfl)) ?_);refine wpAny_newObj_type ?_ (by size_fits);simp only[raiseNew];refine q04 (wpAny_handled ?_)
 first | rw[show A.in1.handled=none from hh] | rw[hh]
 refine q04 (q05 (wpAny_throw ?_));refine q04 (wpAny_isInstance (T:="StopIteration") (b:=true) ⟨_,KU _ rfl,rfl⟩ isSubtype_stop ?_);refine q05 (hQ _ ?_);intro b ob j k;exact KN _ (KN _ ((KS _ _ (Ne.symm j)).trans ((KS _ _ (Ne.symm j)).trans k)))
theorem ia{it:Addr}{t:Tok}{i:Int}{Q:LL}(hit:s.heap.IsRvs it x t i)(h:Q (.ref it) s):wpAny c⁻¹ A (pyIter (.ref it)) Q E s:=by
 refine wpAny_pyIter_slot hit.typeIs F.slot_rvs_iter (wpAny_call_entry F.slot_rvs_iter hit.typeIs F.entry_rvs_iter ?_ (F.args_rvs_iter_1 _));show wpAny _ _ (ret (.ref it)) _ _ s;exact q05 ⟨_,rfl,"reversed",_,hit.typeIs,F.slot_rvs_next.lookup,h⟩
theorem hint_rvs{it:Addr}{t:Tok}{i:Int}{Q:LL}(hit:s.heap.IsRvs it x t i)(hi:i<x.length)(hz:x.length<=sizeLine)
  (h:∀u tk,s.toks<=tk->Q (.int (i+1) u) {s with toks:=tk}):wpAny c⁻¹ A (call (.builtin "reversed.__length_hint__") [.ref it]) Q E s:=by
 obtain⟨o,b,hc,c⟩:=id hit;refine wpAny_call_entry F.slot_rvs_hint hit.typeIs F.entry_rvs_hint ?_ (F.args_rvs_hint_1 _);unfold Builtin.«reversed.__length_hint__»;refine q04 (wpAny_of_eq (a:=Value.ref it) rfl ?_);refine q04 (wpAny_field b c (x:=.str x t) rfl ?_);show wpAny _ _ (if(Value.str x t==Value.none)=true then _ else _) _ _ s;rw[q06 (show ¬ ((Value.str x t==Value.none)=true) from λz=>by cases(eq_of_beq z))];have hs:sizeLine=16777216:=q0W;refine q04 (P.len_str ⋯ ?_);refine q04 (m:=asInt? _) (q05 ?_);dsimp only;refine q04 (wpAny_field b c (x:=rawInt i) rfl ?_);show wpAny _ _ (if(x.length:Int)<i+1 then _ else _) _ _ _;rw[q06 ⋯];show wpAny _ _ (mkInt (i+1) >>= λv=>ret v) _ _ _;exact q04 (wpAny_mkInt (q05 ⟨_,rfl,h _ _ (by simp;omega)⟩))
theorem Walks.rvs{A:LX}(hh:A.handled=none)(I:Addr)(x:Str)(t:Tok)(hz:x.length<=sizeLine) :
  Walks prog w A I [I] [I] x.length (λi v=>∃c tk,x.cps[x.length-1-i]?=some c/\v=.str ⟨#[c]⟩ tk) (λi h=>i<=x.length/\h.IsRvs I x t ((x.length:Int)-1-(i:Int))) where
 sub:=λb hb=>hb
 frame:=λ_ _ _ y hk=>⟨y.1,y.2.at λo e=>hk I (by simp) o e⟩
 item:=λi s Q E hi y hQ=>by
  have e:(x.length:Int)-1-(i:Int)=((x.length-1-i:Nat):Int):=by omega
  have a:=y.2;rw[e]at a;have hb:x.length-1-i<x.cps.size:=by have:x.length=x.cps.size:=rfl;omega
  have p:x.cps[x.length-1-i]?=some (x.cps[x.length-1-i]'hb):=Array.getElem?_eq_getElem hb;have hs:sizeLine=16777216:=q0W;refine iZ a p ⋯ λm tk j g k=>?_;have q:((x.length-1-i:Nat):Int)-1=(x.length:Int)-1-((i+1:Nat):Int):=by omega
  rw[q]at g;exact hQ _ m j ⟨_,tk,p,rfl⟩ ⟨hi,g⟩ λb o hb n=>k.extBut b o (λh=>hb (by simp[h])) n
 done:=λs Q E y hQ=>by
  have e:(x.length:Int)-1-(x.length:Int) = -1:=by omega
  have a:=y.2;rw[e]at a;exact jf hh a λm l=>hQ m s.toks λb o hb n=>l b o (λh=>hb (by simp[h])) n
 self:=λ_ _ _ _ y hQ=>ia y.2 hQ
theorem lJ{t:Tok}{Q:List Value->Shared->Prop}(hh:A.handled=none)(hit:s.heap.IsRvs I x t ((x.length:Int)-1))(hz:x.length<=sizeLine)
  (hQ:∀s' acc,Moved [I] (λa b=>b=a) s s'->ItemsOf (λi v=>∃c tk,x.cps[x.length-1-i]?=some c/\v=.str ⟨#[c]⟩ tk) acc x.length->Q acc.toList s'):wpAny c⁻¹ A (collect (.ref I)) Q E s:=by
 have W:=(Walks.rvs (prog:=prog) (w:=w) (A:=A.in1) hh I x t hz).toS;have hn:x.length<=sizeLine:=hz;have hst:(λi (s:LP)=>i<=x.length/\s.heap.IsRvs I x t ((x.length:Int)-1-(i:Int))) 0 s:=⟨Lc _,by simpa using hit⟩;have hT:∀i (s:LP),(i<=x.length/\s.heap.IsRvs I x t ((x.length:Int)-1-(i:Int)))->s.TypeIs (.ref I) "reversed":=λi s y=>y.2.typeIs;have hlt:I<s.heap.objs.size:=by obtain⟨o,ho,_⟩:=hit;exact Le ho
 have hSI:s.heap.objs.size≠I:=λe=>Lk _ (e▸hlt);have hSf:s.heap.objs.size∉[I]:=λhm=>hSI (KP.mp hm);unfold collect;refine q04 (wpAny_runValue (codeAny_builtin F.entry_proto_collect ?_));rw[Around.under_plainId F.plain_proto_collect _];show wpAny _ A.in1 (newList [] >>= λl=>again (.builtin "list.__iadd__" ⟨[l,.ref I],[]⟩)) _ _ s;refine q04 (wpAny_newObj_type ?_);refine q05 ⟨plainId_quiet F.plain_list_iadd _,codeAny_builtin F.entry_list_iadd ?_⟩;rw[Around.under_plainId F.plain_list_iadd _];have hst₁:=W.frame 0 s (s.heap.push {cls:=.type "list",data:=.seq ([]:List Value).toArray}) s.toks hst (Lb _) λb _ o e=>KN _ e;have hS₁:(s.heap.push {cls:=.type "list",data:=.seq ([]:List Value).toArray}).get? s.heap.objs.size=some {cls:=.type "list",data:=.seq ([]:List Value).toArray}:=KU _ rfl;have h1:Builtin.List.listSameRef (.ref s.heap.objs.size) (.ref I)=false:=by simp[Builtin.List.listSameRef,hSI]
 show wpAny _ A.in1 (Builtin.List.listExtendWith (.ref s.heap.objs.size) (.ref I) (.ref s.heap.objs.size)) _ _ _;unfold Builtin.List.listExtendWith;refine q04 (wpAny_typeOf (hT 0 _ hst₁) ?_);rw[q06 (by rw[h1];decide)];refine q04 (W.self 0 _ _ _ hst₁ ?_);refine q04 (q0Y ?_);unfold Builtin.List.listLengthHint;refine q04 (wpAny_specialOf (hT 0 _ hst₁) F.nolen_rvs ?_);show wpAny _ A.in1 (specialOf (Value.ref I) (Str.ofString "__length_hint__") >>= _) _ _ _;refine q04 (wpAny_specialOf (hT 0 _ hst₁) F.hint_rvs ?_)
 (generalize hid:("reversed.__length_hint__":String)=id0;(fail_if_success (clear hid id0));wp_delta;rw[show splitId id0=some ("reversed","__length_hint__") from by subst hid;decide +kernel];subst hid)
 refine q04 (wpAny_isInstance (b:=true) (hT 0 _ hst₁) (by rw[isSubtype_type];kernel_rfl) ?_);rw[q06 (show ¬ ((!true)=true) by decide)];dsimp only
 split
 ·rename_i hsil
  exact q0Q hsil (by decide +kernel)
 refine q04 (wpAny_rule ?_);refine q04 (wpAny_of_eq (F.slot_rvs_hint.bind _) ?_);dsimp only;refine q04 (wpAny_attempt ?_);refine hint_rvs (i:=(x.length:Int)-1-((0:Nat):Int)) hst₁.2 ⋯ hz λu tk htk=>?_;dsimp only;have hs:sizeLine=16777216:=q0W;have hk:Builtin.List.listTooLong (Int.toNat ((x.length:Int)-1-((0:Nat):Int)+1))=false:=by
  unfold Builtin.List.listTooLong;have e:Int.toNat ((x.length:Int)-1-((0:Nat):Int)+1)=x.length:=by omega
  rw[e]
  simpa using hz
 refine q04 (m:=asInt? (.int _ u)) (q05 ?_);dsimp only;have hfit:Builtin.List.listFitsIndex ((x.length:Int)-1-((0:Nat):Int)+1)=true:=by
  unfold Builtin.List.listFitsIndex;simp;omega
 rw[q06 (by rw[hfit];decide),q06 ⋯,q06 (by rw[hk];decide)];refine q05 ?_
 -- the loop,from a list that may have been touched
 have fin:∀(h₂:Heap) (c:Nat),(∀b o,b≠s.heap.objs.size->(s.heap.push {cls:=.type "list",data:=.seq ([]:List Value).toArray}).get? b=some o->h₂.get? b=some o) ->
   h₂.get? s.heap.objs.size=some {cls:=.type "list",data:=.seq ([]:List Value).toArray c} ->
   codeAny c⁻¹ A (.builtin "list.extend.loop" ⟨[.ref s.heap.objs.size,.ref I,.ref s.heap.objs.size],[]⟩) (λr s'=>match r with
    | .ok (.ret v)=>wpAny c⁻¹ A (match v with
     | .ref a=>do
      let __do_lift <- load a
      match __do_lift.data with
       | .seq xs _=>pure xs.toList
       |_=>unsupported "internal:collect"
     |_=>unsupported "internal:collect") Q E s'
    | .ok _=>False
    | .error e=>E e s') {s with heap:=h₂,toks:=tk}:=λh₂ c keep hS₂=>by
  have hst₂:(λi (s:LP)=>i<=x.length/\s.heap.IsRvs I x t ((x.length:Int)-1-(i:Int))) 0 {s with heap:=h₂,toks:=tk}:=⟨Lc _,hst₁.2.at λo e=>keep I o (Ne.symm hSI) e⟩;refine codeAny_extend_loopS W hn _ hSf _ x.length 0 _ _ _ rfl (Lc _) hst₂ hS₂ (ItemsOf.nil _) λs' acc' c' hm hS' hacc=>?_;show wpAny _ A (load s.heap.objs.size >>= _) _ _ s';refine q04 (wpAny_load hS' ?_);refine q05 (hQ s' acc' ?_ hacc);exact⟨λb ob hb e=>hm.heap b ob (λhm'=>by
    rcases K5.mp hm' with e1 | hm'
    ·exact q0Q (e1▸Le e) (Lk _)
    ·exact hb hm') (keep b ob (λe1=>q0Q (e1▸Le e) (Lk _)) (KN _ e)),hm.gens,hm.drawn,hm.os,Lj htk hm.toks⟩
 have quiet:=plainId_quiet F.plain_extend_loop (⟨[.ref s.heap.objs.size,.ref I,.ref s.heap.objs.size],[]⟩:Args)
 split
 ·refine q04 (wpAny_rule ?_)
  show wpAny _ A.in1 ((updateSeq s.heap.objs.size (·.push .none) >>= λ_=>updateSeq s.heap.objs.size (·.pop)) >>= _) _ _ _;refine q04 (q04 (wpAny_updateSeq hS₁ rfl ?_ (by simp) (by simp)));have q1:=PySem.IsL.update (h:=s.heap.push {cls:=.type "list",data:=.seq ([]:List Value).toArray}) (l:=s.heap.objs.size) (items:=([]:List Value).toArray) (n:=0) hS₁ (·.push .none);refine wpAny_updateSeq q1 rfl ?_ (by simp;omega) (by simp);have q2:=PySem.IsL.update q1 (·.pop);exact q05 ⟨quiet,fin _ _ (λb o hb e=>(KS _ _ (Ne.symm hb)).trans ((KS _ _ (Ne.symm hb)).trans e)) (show _=some ({cls:=.type "list",data:=.seq ([]:List Value).toArray _}:Obj) from q2)⟩
 ·exact q05 ⟨quiet,fin _ _ (λb o hb e=>e) hS₁⟩
theorem Bq{sep:Str}{t:Tok}{Q:LL}(hh:A.handled=none)(hit:s.heap.IsRvs I x t ((x.length:Int)-1))(hz:x.length<=1000)(hsep:sep.length<=1000)
  (h:∀(s':LP) (t':Tok) (k:Nat),(∀b o,b≠I->s.heap.get? b=some o->s'.heap.get? b=some o)->s'.gens=s.gens->s'.drawn=s.drawn->s'.os=s.os ->
   Q (.str (Txt.join sep (x.cps.toList.reverse.map λc=>(⟨#[c]⟩:Str))) t') {s' with toks:=k}):wpAny c⁻¹ A (call (.builtin "str.join") [.str sep t0,.ref I]) Q E s:=by
 have hs:sizeLine=16777216:=q0W;refine wpAny_call (codeAny_call_builtin F.slot_str_join.plain F.entry_str_join (F.slot_str_join.check _ _ _ _ _ _ _ _ (typeIs_str _ _ _) (F.args_str_join_2 _ _) ?_));rw[join_tree_other];refine q04 (wpAny_typeOf hit.typeIs ?_);show wpAny _ A.in1 ((pyIter (.ref I)).tryCatch _ >>= λY=>collect Y >>= λu=>joinTail sep u) _ _ s;refine q04 (wpAny_tryCatch (ia hit ?_));refine q04 (lJ hh hit ⋯ λs' C D m=>?_);obtain⟨l,G⟩:=exists_strValues C.toList λv Z=>by
  obtain⟨j,J,rfl⟩:=Array.mem_iff_getElem.mp (Array.mem_toList_iff.mp Z);obtain⟨c,U,_,e⟩:=m.2 j _ (Array.getElem?_eq_getElem J);exact⟨_,_,e⟩
 have B:l.map (·.1)=x.cps.toList.reverse.map λc=>(⟨#[c]⟩:Str):=by
  have el:l.length=x.length:=by
   have q:=q0R List.length G;simp[strValues]at q;rw[q];exact m.1
  refine List.ext_getElem (by simp[el];rfl) λj h1 h2=>?_;simp only[List.getElem_map,List.getElem_reverse];have J:j<l.length:=by simpa using h1
  have ha:C.toList[j]?=some (Value.str (l[j]).1 (l[j]).2):=by
   rw[<- G];simp[strValues,J]
  have O:C[j]?=some (Value.str (l[j]).1 (l[j]).2):=by simpa using ha
  obtain⟨c,U,T,e⟩:=m.2 j _ O
  injection e with S _
  rw[S];have M:x.length-1-j<x.cps.size:=by have:x.length=x.cps.size:=rfl;omega
  rw[Array.getElem?_eq_getElem M]at T;have L:=q0S T;rw[<- L];simp only[Array.length_toList,Array.getElem_toList]
  rfl
 rw[<- G];have n:JoinOk sep (l.map (·.1))=true:=by
  unfold JoinOk;rw[StrLaws.joinTotal];have S:((l.map (·.1)).map (·.length)).sum=x.length:=by
   rw[B,K4];have:((λy:Str=>y.length)∘λc=>(⟨#[c]⟩:Str))=λ_=>1:=by funext c;rfl
   rw[this,List.map_const',List.sum_replicate_nat];simp
   rfl
  have e2:(l.map (·.1)).length=x.length:=by rw[B];simp;rfl
  rw[S,e2];have:x.length*sep.length<=1000*1000:=Nat.mul_le_mul hz hsep;unfold tooLong;rw[q08 ⋯]
  rfl
 have a:=λt' k=>h s' t' k (λb o M e=>D.heap b o (λz=>M (KP.mp z)) e) D.gens D.drawn D.os;unfold JoinOk at n;rw[Bool.not_eq_true']at n;have g:Gives (joinTail sep (strValues l)) (joinMade sep l):=by
  have R:=gives_joinTail sep l n;cases l with
  |nil=>exact R
  |cons p r=>cases r with
   |nil=>exact R
   |cons q r'=>exact R
 rw[<- B]at a;exact g prog w A (wants Q E) s' (post_join l ⟨joinFit_length n,a⟩)
end
namespace F
theorem qI:Slot "reversed" "__init__" "object.__init__":=
 .of (owner:="object") (n:="__init__") (by rw[typeLookup_type,builtinLookup_eq_fast];kernel_rfl) (by decide +kernel) (by decide +kernel) (by decide +kernel)
  (by first | exact .inl (by decide +kernel) | exact .inr (by decide +kernel)) (by rw[isSubtype_type];kernel_rfl)
theorem x_:mroOf (.type "reversed")=pure [.type "reversed",.type "object"]:=by rw[mroOf_type];kernel_rfl
theorem pL:typeLookup (.type "reversed") "__new__"=pure (some (.builtin "reversed.__new__")):=by rw[typeLookup_type,builtinLookup_eq_fast];kernel_rfl
theorem rvs_called:TypeCalled "reversed" "reversed.__new__" "object.__init__":=
 ⟨by decide +kernel,by decide +kernel,⟨_,_,x_⟩,madeBy_type x_ pL (by decide +kernel),by decide +kernel,by rw[isSubtype_type];kernel_rfl,qI⟩
theorem rvs_typeCall_1(a:Value):checkTypeCall "reversed" ⟨[a],[]⟩=pure ():=by kernel_rfl
theorem rvs_newCall_1(a:Value):checkBuiltinCall "reversed.__new__" ⟨[.type "reversed",a],[]⟩=pure ():=by kernel_rfl
theorem rvs_entry_new:entryFor table "reversed.__new__"=some Builtin.«reversed.__new__»:=entryFor_of_tree f⁻¹
theorem rvs_sub:isSubtype (.type "reversed") (.type "reversed")=pure true:=by rw[isSubtype_type];kernel_rfl
theorem rvs_nostr:typeLookup (.type "str") "__reversed__"=pure none:=by rw[typeLookup_type,builtinLookup_eq_fast];kernel_rfl
end F
section
variable {prog:LV}{w:LY}{A:LX}{E:LL}{s:LP}
theorem sV(a:Value):Builtin.SmallTypes.newClass "reversed" ⟨[.type "reversed",a],[]⟩=pure (.type "reversed",[a]):=by
 unfold Builtin.SmallTypes.newClass;simp only[isType,F.rvs_sub,pure_bind,Bool.not_true,q0a,if_false]
theorem qE(x:Str)(t:Tok)(hz:x.length<=sizeLine):Meets (Builtin.«reversed.__new__» ⟨[.type "reversed",.str x t],[]⟩)
  (λ_ R s=>R (.ok (.ret (.ref s.heap.objs.size))) {s with heap:=s.heap.push (xy x t ((x.length:Int)-1)),toks:=s.toks+1+1}):=
 .of_wp λprog w A R s h=>by
  have hs:sizeLine=16777216:=q0W;unfold Builtin.«reversed.__new__»;refine q04 (wpAny_of_eq (sV _) ?_)
  try dsimp only
  refine q04 (wpAny_of_eq (a:=()) (by first | rfl | kernel_rfl) ?_);refine q04 (wpAny_of_eq (a:=()) (by first | rfl | kernel_rfl) ?_)
  try dsimp only
  refine q04 (wpAny_specialOf (typeIs_str s x t) F.rvs_nostr ?_)
  try dsimp only
  refine q04 ?_;refine q04 (wpAny_isInstance (T:="str") (b:=false) (typeIs_str s x t) (by rw[isSubtype_type];kernel_rfl) ?_);rw[q06 b⁻¹];refine q04 (wpAny_specialOf (typeIs_str s x t) F.slot_str_getitem.lookup ?_);dsimp only
  split
  ·refine q05 ?_
   rw[q06 b⁻¹];refine q04 (P.len_str ⋯ ?_);refine q04 (m:=asInt? _) (q05 ?_);dsimp only;show wpAny _ _ (newObj (.type "reversed") (.fields #[.str x t,rawInt ((x.length:Int)-1)]) >>= λv=>ret v) _ _ _;exact q04 (wpAny_newObj_type (q05 ⟨_,rfl,h⟩))
  ·rename_i hn
   exact q0Q (by decide +kernel) hn
theorem lP{x:Str}{t:Tok}{Q:LL}(hz:x.length<=sizeLine)
  (h:Q (.ref s.heap.objs.size) {s with heap:=s.heap.push (xy x t ((x.length:Int)-1)),toks:=s.toks+1+1}):wpAny c⁻¹ A (call (.type "reversed") [.str x t]) Q E s:=
 callType_new F.rvs_called b⁻¹ (F.rvs_typeCall_1 _) (F.rvs_newCall_1 _) (λobj=>F.args_object_init_2 obj _) F.rvs_entry_new (qE x t hz) ⟨⟨_,KU _ rfl,rfl⟩,h⟩
end
end PySem
namespace L2
open PySem PySem.Spec PyProof.Rows
def fk(env:Env):List (Str×NameKind)->List (Str×Addr)->List (Str×Addr)
 | [],acc=>acc
 | (n,k)::r,acc=>if k==.free then fk env r ((n,(env.cells.lookup n).getD 0)::acc) else fk env r acc
theorem nr{env:Env}:∀(ns:List (Str×NameKind)) (acc:List (Str×Addr)),(∀x∈ns,x.2=.free->∃c,env.cells.lookup x.1=some c) ->
  (forIn ns acc fun(x:Str×NameKind) (cs:List (Str×Addr))=>(if x.2==.free then do
    let c <- cellOf env x.1
    pure (ForInStep.yield ((x.1,c)::cs))
   else pure (ForInStep.yield cs):Sem (ForInStep (List (Str×Addr)))))=pure (fk env ns acc)
 | [],acc,_=>rfl
 | (n,k)::r,acc,h=>by
  have ih:=λa=>nr (env:=env) r a λx hx=>h x (K6 _ hx);rw[List.forIn_cons]
  by_cases hk:k=.free
  ·subst hk
   obtain⟨c,hc⟩:=h (n,.free) q0B rfl;have hc':env.cells.lookup n=some c:=hc;have e1:cellOf env n=pure c:=by unfold cellOf;rw[hc']
   simp only[fk,hc',q0L];show((do let c <- cellOf env n;pure (ForInStep.yield ((n,c)::acc))) >>= _)=_;rw[e1,pure_bind,pure_bind];exact ih _
  ·have b:(k==NameKind.free)=false:=by simpa using hk
   simp only[fk,b,q0a,if_false];rw[pure_bind];exact ih _
theorem jq{env:Env}{scope:Scope}(h:∀x∈scope.names,x.2=.free->∃c,env.cells.lookup x.1=some c) :
  closureFor scope env=pure (fk env scope.names []):=by
 unfold closureFor;have e:=nr (env:=env) scope.names [] h;have a:(forIn scope.names ([]:List (Str×Addr)) λx b=>(match x with
   | (name,kind)=>if kind==.free then do
     let c <- cellOf env name
     pure (ForInStep.yield ((name,c)::b))
    else pure (ForInStep.yield b):Sem (ForInStep (List (Str×Addr)))))=pure (fk env scope.names []):=e
 simp only[]at a ⊢
 first
  | (rw[a];rfl)
  | (erw [a];rfl)
theorem iM{env:Env}:∀{ns:List (Str×NameKind)} {acc:List (Str×Addr)} {x:Str} {c:Addr},(∀y∈ns,y.2=.free->∃c,env.cells.lookup y.1=some c) ->
  (∀y c,acc.lookup y=some c->env.cells.lookup y=some c)->(fk env ns acc).lookup x=some c->env.cells.lookup x=some c
 | [],_,_,_,_,ha,e=>ha _ _ e
 | (n,k)::r,acc,x,c,h,ha,e=>by
  have hr:∀y∈r,y.2=.free->∃c,env.cells.lookup y.1=some c:=λy hy=>h y (K6 _ hy);unfold fk at e
  by_cases hk:k=.free
  ·subst hk
   rw[q07 (by simp)]at e;obtain⟨c',hc⟩:=h (n,.free) q0B rfl;have hc':env.cells.lookup n=some c':=hc;refine iM hr (λy d z=>?_) e;rw[hc',q0L,List.lookup_cons]at z
   by_cases q:y=n
   ·subst q
    simp at z;subst z;exact hc'
   ·have q':(y==n)=false:=by simpa using q
    rw[q']at z;exact ha y d z
  ·rw[q06 (by simpa using hk)]at e
   exact iM hr ha e
theorem n6{env:Env}:∀{ns:List (Str×NameKind)} {acc:List (Str×Addr)} {x:Str},((∃c,acc.lookup x=some c)\/(x,NameKind.free)∈ns)->∃c,(fk env ns acc).lookup x=some c
 | [],_,_,h=>by
  rcases h with h | h
  ·exact h
  ·exact nomatch h
 | (n,k)::r,acc,x,h=>by
  unfold fk
  by_cases hk:k=.free
  ·subst hk
   rw[q07 (by simp)];refine n6 ?_
   by_cases q:x=n
   ·subst q
    left
    simp[List.lookup_cons]
   ·have q':(x==n)=false:=by simpa using q
    rcases h with⟨c,h⟩ | h
    ·exact .inl ⟨c,by rw[List.lookup_cons,q'];exact h⟩
    ·rcases K5.mp h with z | z
     ·cases z
      exact q0Q rfl q
     ·exact .inr z
  ·rw[q06 (by simpa using hk)]
   refine n6 ?_;rcases h with h | h
   ·exact .inl h
   ·rcases K5.mp h with z | z
    ·cases z
     exact q0Q rfl hk
    ·exact .inr z
def vh(scope osc:Scope):Scope:=
 {scope with names:=scope.names.map fun(n,k)=>if(k==.free&&osc.kind==.function&&osc.names.lookup n==some .cell) then(n,.cell) else(n,k)}
def At(scope osc:Scope):Bool:=
 (scope.kind==.function)&&(osc.kind==.function)&&scope.names.all fun(n,k)=>(k != .free || !scope.names.contains (n,NameKind.cell))&&(k != .local||scope.names.lookup n==some .local) &&
  (k != .free||osc.names.lookup n==some .cell||osc.names.lookup n==some .free)&&(k != .free||(vh scope osc).names.lookup n != some .local)
structure bY(scope osc:Scope):Prop where
 kind:scope.kind=.function
 sep:∀x∈scope.names,x.2=.free->(x.1,NameKind.cell)∉scope.names
 loc:∀x∈scope.names,x.2=.local->scope.names.lookup x.1=some .local
 free:∀x∈scope.names,x.2=.free->osc.names.lookup x.1=some .cell\/osc.names.lookup x.1=some .free
 nl:∀x∈scope.names,x.2=.free->(vh scope osc).names.lookup x.1≠some .local
theorem bY.of{scope osc:Scope}(h:At scope osc=true):bY scope osc:=by
 unfold At at h;rw[q0O,q0O,Lz]at h;obtain⟨⟨h1,h0⟩,h2⟩:=h;refine⟨by simpa using h1,λx a e=>?_,λx a e=>?_,λx a e=>?_,λx a e=>?_⟩
 all_goals
  obtain⟨n,k⟩:=x;have q:=h2 (n,k) a;simp only[q0O,Bool.or_eq_true,bne_iff_ne,beq_iff_eq]at q
 ·have z:=q.1.1.1.resolve_left (λz=>z e)
  simpa using z
 ·exact q.1.1.2.resolve_left (λz=>z e)
 ·rcases q.1.2 with(z | z) | z
  ·exact q0Q e z
  ·exact .inl z
  ·exact .inr z
 ·exact q.2.resolve_left (λz=>z e)
theorem fQ{osc:Scope}:∀{ns:List (Str×NameKind)} {x:Str} {k':NameKind},
  (ns.map fun(n,k)=>if(k==NameKind.free&&osc.kind==.function&&osc.names.lookup n==some .cell) then(n,NameKind.cell) else(n,k)).lookup x=some k' ->
  (k'=.cell\/k'=.free)->(x,NameKind.free)∈ns\/(x,NameKind.cell)∈ns
 | [],_,_,h,_=>by simp at h
 | (n,k)::r,x,k',h,hk'=>by
  rw[Lh]at h
  by_cases q:x=n
  ·subst q
   by_cases z:(k==NameKind.free&&osc.kind==.function&&osc.names.lookup x==some .cell)=true
   ·have:k=.free:=by
     simp only[q0O,beq_iff_eq]at z;exact z.1.1
    subst this;exact .inl q0B
   ·simp only[z,q0a,if_false]at h
    rw[List.lookup_cons]at h;simp at h;subst h;rcases hk' with e | e
    ·subst e;exact .inr q0B
    ·subst e;exact .inl q0B
  ·have a:(x==n)=false:=by simpa using q
   refine(fQ (osc:=osc) (k':=k') (ns:=r) (x:=x) ?_ hk').imp (K6 _) (K6 _)
   by_cases z:(k==NameKind.free&&osc.kind==.function&&osc.names.lookup n==some .cell)=true
   ·simp only[z,if_true]at h
    rw[List.lookup_cons,a]at h;exact h
   ·simp only[z,q0a,if_false]at h
    rw[List.lookup_cons,a]at h;exact h
theorem i_:∀(ns:List (Str×NameKind)) (n:Nat) (acc:List (Str×Addr)),cellsFrom n ns acc=cellsFrom n ns []++acc
 | [],_,_=>rfl
 | (x,k)::r,n,acc=>by
  unfold cellsFrom
  split
  ·rw[i_ r (n+1) ((x,n)::acc),i_ r (n+1) [(x,n)],Ln];rfl
  ·exact i_ r n acc
theorem uf:∀{ns:List (Str×NameKind)} {n:Nat} {x:Str} {c:Addr},(x,c)∈cellsFrom n ns []->(x,NameKind.cell)∈ns
 | [],_,_,_,h=>nomatch h
 | (y,k)::r,n,x,c,h=>by
  unfold cellsFrom at h
  split at h
  ·rename_i hk
   rw[i_]at h;rcases K3.mp h with h | h
   ·exact K6 _ (uf h)
   ·cases KP.mp h
    have:k=.cell:=by simpa using hk
    subst this;exact q0B
  ·exact K6 _ (uf h)
theorem tT:∀{ns:List (Str×NameKind)} {n:Nat} {x:Str} {acc:List (Str×Addr)},((x,NameKind.cell)∈ns\/∃c,acc.lookup x=some c)->∃c,(cellsFrom n ns acc).lookup x=some c
 | [],_,_,_,h=>h.elim (λz=>nomatch z) id
 | (y,k)::r,n,x,acc,h=>by
  unfold cellsFrom
  split
  ·refine tT ?_
   by_cases q:x=y
   ·subst q
    exact .inr ⟨n,by simp[List.lookup_cons]⟩
   ·have q':(x==y)=false:=by simpa using q
    rcases h with h | ⟨c,h⟩
    ·rcases K5.mp h with z | z
     ·cases z;exact q0Q rfl q
     ·exact .inl z
    ·exact .inr ⟨c,by rw[List.lookup_cons,q'];exact h⟩
  ·rename_i hk
   refine tT ?_;rcases h with h | h
   ·rcases K5.mp h with z | z
    ·cases z;exact q0Q rfl hk
    ·exact .inl z
   ·exact .inr h
def d9(env:Env)(scope:Scope)(C:Addr):List (Str×Addr):=cellsFrom (C+1) scope.names (fk env scope.names [])
theorem lI:∀{ns:List (Str×NameKind)} {n:Nat} {x:Str} {c:Addr},(x,c)∈cellsFrom n ns []->n<=c
 | [],_,_,_,h=>nomatch h
 | (y,k)::r,n,x,c,h=>by
  unfold cellsFrom at h
  split at h
  ·rw[i_]at h
   rcases K3.mp h with h | h
   ·exact Lj (Nat.le_succ _) (lI h)
   ·cases KP.mp h
    exact Lb _
  ·exact lI h
theorem oR:∀{ns:List (Str×NameKind)} {n:Nat},(cellsFrom n ns []).Pairwise λx y=>x.2≠y.2
 | [],_=>List.Pairwise.nil
 | (y,k)::r,n=>by
  unfold cellsFrom
  split
  ·rw[i_]
   refine List.pairwise_append.mpr ⟨oR,by simp,λa ha b hb e=>?_⟩;cases KP.mp hb;have:=lI (x:=a.1) (c:=a.2) ha;rw[e]at this;exact q0Q this (Nat.not_succ_le_self _)
  ·exact oR
theorem iV{env:Env}{scope:Scope}{c:Addr}(h:(d9 env scope C).lookup x=some c) :
  ((x,c)∈cellsFrom (C+1) scope.names []/\C<c/\(x,NameKind.cell)∈scope.names)\/((cellsFrom (C+1) scope.names []).lookup x=none/\(fk env scope.names []).lookup x=some c):=by
 unfold d9 at h;rw[i_,List.lookup_append]at h;cases q:(cellsFrom (C+1) scope.names []).lookup x with
 |none=>rw[q]at h;exact .inr ⟨rfl,h⟩
 |some d=>
  rw[q]at h;cases h;have:=mem_of_lookup q;exact .inl ⟨this,lI this,uf this⟩
theorem Au{ns:List (Str×NameKind)}{x:Str}(h:(x,NameKind.cell)∉ns):(cellsFrom n ns []).lookup x=none:=by
 cases q:(cellsFrom n ns []).lookup x with
 |none=>rfl
 |some d=>exact q0Q (uf (mem_of_lookup q)) h
section
variable {M:Model}{A:LX}{E:LL}{s:LP}
theorem fm{scope:Scope}{globals:Addr}{closure:List (Str×Addr)}{qual:Str}{func:LZ}{code:Value}{outer:Env}{builtins:Addr}{Q:Env->Shared->Prop}
  (hQ:Q (newEnv scope s.heap.objs.size globals (cellsFrom (s.heap.objs.size+1) scope.names closure) qual func code (some outer) builtins) {s with heap:=pushCells (s.heap.push {cls:=.type "dict",data:=.dict #[]}) scope.names}) :
  wpAny M A (newFunctionEnv scope globals closure [] qual func code (some outer) builtins) Q E s:=by
 simp only[newFunctionEnv,Option.isSome_some,if_true];simp only[newEnv]at hQ;refine q04 (wpAny_alloc ?_);refine q04 (wpAny_layCells _ (λname a cells=>by cases b:a==NameKind.cell<;>simp[b]) _ _ _ _ ?_);rw[show({s with heap:=s.heap.push {cls:=.type "dict",data:=.dict #[]} }:Shared).heap.objs.size=s.heap.objs.size+1 from Heap.size_push ..];rw[List.forIn_nil];exact q04 (q05 (q05 hQ))
end
def Cx.blk(X:Cx)(N':LW)(s₂:LP)(H₂:Hp)(scope:Scope)(fp:LR)(C:Addr):Cx where
 prog:=X.prog
 w:=X.w
 K:=X.K
 mg:=X.mg
 base:=X.base
 A:=X.A
 N:=N'
 s₀:=s₂
 H₀:=H₂
 env:=compEnvC scope (d9 X.env scope C) C X.env
 outer:=X.stack
 stack:=X.stack
 ex:=fp
 fn:=λx=>scope.names.contains (x,NameKind.cell)
 calm:=X.calm
 pn:=[]
 xe:=λ_ _=>False
def qW(k:Nat)(js:LO)(σ:St):St:=List.replicate k none++js.map λj=>(σ[j]?).join
def oo(own:LW)(js:LO)(N:LW):List Str:=own++js.map λj=>N.getD j Str.empty
section
variable {X:Cx}
theorem Inv.capFree{pins:LN}{σ:St}{scope:Scope}(I:Inv X pins σ H s)(hk:bY scope X.env.scope):∀x∈scope.names,x.2=.free->∃c,X.env.cells.lookup x.1=some c:=
 λx hx e=>I.ok.has x.1 (hk.free x hx e)
theorem Inv.capL{pins:LN}{σ:St}{scope:Scope}{c:Addr}(I:Inv X pins σ H s)(hk:bY scope X.env.scope)(e:(fk X.env scope.names []).lookup x=some c):X.env.cells.lookup x=some c:=
 iM (I.capFree hk) (λ_ _ z=>by simp at z) e
theorem Inv.blkL{pins:LN}{σ:St}{scope:Scope}{c:Addr}(I:Inv X pins σ H s)(hk:bY scope X.env.scope)(e:(d9 X.env scope C).lookup x=some c) :
  ((x,c)∈cellsFrom (C+1) scope.names []/\C<c/\(x,NameKind.cell)∈scope.names)\/X.env.cells.lookup x=some c:=
 (iV e).imp id λz=>I.capL hk z.2
theorem FN{pins:LN}{σ:St}{scope:Scope}{fp:LR}{C:Addr}(I:Inv X pins σ H s)(hk:bY scope X.env.scope)(hC:s.heap.objs.size<=C)
  (hf:∀b∈fp,nO X pins H b) (ho:∀b∈fp,∃o,s.heap.get? b=some o):(X.blk N' s H scope fp C).Ok where
 mod:=I.ok.mod
 kind:=hk.kind
 glob:=I.ok.glob
 blt:=I.ok.blt
 above:=hC
 inj:=λx y c e1 e2=>by
  have low:∀z,X.env.cells.lookup z=some c->c<C:=λz e=>by
   obtain⟨v,q⟩:=I.cell z c e;exact K8 q.lt hC
  rcases I.blkL hk e1 with⟨a1,a2,_⟩ | a<;>rcases I.blkL hk e2 with⟨b1,b2,_⟩ | b
  ·exact name_of_addr oR a1 b1
  ·exact q0Q (low _ b) (Nat.not_lt.mpr (q0P a2))
  ·exact q0Q (low _ a) (Nat.not_lt.mpr (q0P b2))
  ·exact I.ok.inj x y c a b
 has:=λx h=>by
  refine tT ?_;have z:(x,NameKind.free)∈scope.names\/(x,NameKind.cell)∈scope.names:=by
   rcases h with h | h
   ·exact fQ (osc:=X.env.scope) h (.inl rfl)
   ·exact fQ (osc:=X.env.scope) h (.inr rfl)
  rcases z with z | z
  ·exact .inr (n6 (.inr z))
  ·exact .inl z
 cab:=λx c z e=>by
  have l:(x,NameKind.cell)∈scope.names:=by
   have k:scope.names.contains (x,NameKind.cell)=true:=z
   simpa using k
  have j:(d9 X.env scope C).lookup x=some c:=e;rcases iV j with⟨_,a,_⟩ | ⟨a,_⟩
  ·exact Lj hC (q0P a)
  ·obtain⟨d,q⟩:=tT (n:=C+1) (acc:=[]) (.inl l)
   rw[a]at q;cases q
 hd:=I.ok.hd
 frames:=I.ok.frames
 stk:=.inl rfl
 exf:=λb g=>⟨λe=>by
  obtain⟨o,q⟩:=ho b g;have j:b=C:=e;rw[j]at q;exact q0Q (Le q) (Nat.not_lt.mpr hC),λx c e=>by
  rcases I.blkL hk e with⟨_,a,_⟩ | a
  ·obtain⟨o,q⟩:=ho b g
   intro z;rw[z]at a;exact q0Q (K8 (Le q) hC) (Nat.not_lt.mpr (q0P a))
  ·exact(hf b g).2.2.2.2.1 x c a⟩
 bs:=I.bs
 bsz:=Lj I.ok.bsz I.sz
 noex:=λb o e g=>by
  rcases(hf b g).2.2.2.1 with z | z
  ·exact I.ok.noex b o e z
  ·exact q0Q (Le (I.ok.bs b o e).1) (Nat.not_lt.mpr z)
 exfs:=λb g m=>by
  rcases K5.mp (I.stkSub b m) with z | z
  ·exact(hf b g).2.1 z
  ·exact(hf b g).2.2.1 z
 funs:=I.stack
 frf:=I.stkFree
theorem An{pins:LN}{σ:St}{s1:LP}{own:LW}{js:LO}{scope:Scope}{fp:LR}{C:Addr}(I:Inv X pins σ H s)(hk:bY scope X.env.scope)(hC:s.heap.objs.size<=C)
  (hf:∀b∈fp,nO X pins H b) (ho:∀b∈fp,∃o,s.heap.get? b=some o) (hos:s1.os=s.os) (hg:s1.gens=s.gens) (hn:s1.heap.Ns C m) (keep:∀b o,s.heap.get? b=some o->s1.heap.get? b=some o)
  (hown:∀x c,(x,c)∈cellsFrom (C+1) scope.names []->s1.heap.IsCell c none) (hcap:(js.all λj=>scope.names.contains (X.N.getD j Str.empty,NameKind.free))=true) :
  Inv (X.blk (oo own js X.N) s H scope fp C) [] (qW own.length js σ) H s1:=by
 have cl:=fun{x:Str} {c:Addr} (e:(fk X.env scope.names []).lookup x=some c)=>iM (I.capFree hk) (λ_ _ z=>by simp at z) e;refine⟨FN I hk hC hf ho,hos,hg▸I.bare,Un.kept keep,⟨m,hn,λi x v e1 e2 Z=>?_⟩,λx c e=>?_,I.hok.fresh hC,λx c e=>(I.blkL hk e).elim (λz=>I.hok.fresh (Lj hC (q0P z.2.1))) λz=>I.freeC x c z,λp R=>(nomatch R),I.hok.kept keep,?_⟩
 ·have g:(own++js.map λj=>X.N.getD j Str.empty)[i]?=some x:=e1
  have a:(List.replicate own.length none++js.map λj=>(σ[j]?).join)[i]?=some (some v):=e2
  by_cases B:i<own.length
  ·rw[K' (by rw[List.length_replicate];exact B),List.getElem?_replicate,q07 B]at a
   cases a
  ·have l:own.length<=i:=Nat.le_of_not_lt B
   rw[K_ (by rw[List.length_replicate];exact l),List.length_replicate,KQ]at a;rw[K_ l,KQ]at g;cases D:js[i-own.length]? with
   |none=>rw[D]at g;cases g
   |some j=>
    rw[D]at g a;have L:X.N.getD j Str.empty=x:=q0S g;have r:(σ[j]?).join=some v:=q0S a;have J:σ[j]?=some (some v):=by
     cases q:σ[j]? with
     |none=>rw[q]at r;cases r
     |some z=>rw[q]at r;simp at r;rw[r]
    have y:j<X.N.length:=by rw[<- I.len];exact(KM.mp J).1
    have U:X.N[j]?=some x:=by rw[<- L,q0A,KL y];rfl
    have w:(x,NameKind.free)∈scope.names:=by
     have q:=Lz.mp hcap j (KR D);rw[L]at q
     simpa using q
    have G:=hk.free _ w rfl;obtain⟨mo,hno,S⟩:=I.loc;obtain⟨u,M,O⟩:=S j x v U J (G.elim (λz=>.inr (.inl z)) λz=>.inr (.inr z));refine⟨u,M,?_⟩;rcases O with⟨k,_⟩ | ⟨k,c,Y,T⟩
    ·rcases G with z | z
     ·rw[show X.env.kindOf x=X.env.scope.names.lookup x from rfl,z]at k;cases k
     ·rw[show X.env.kindOf x=X.env.scope.names.lookup x from rfl,z]at k;cases k
    ·obtain⟨c',n⟩:=n6 (env:=X.env) (ns:=scope.names) (acc:=[]) (x:=x) (.inr w)
     have:=cl n;rw[Y]at this;cases this;refine .inr ⟨?_,c,?_,T.keeps keep⟩
     case refine_2=>
      show(d9 X.env scope C).lookup x=some c;unfold d9;rw[i_,List.lookup_append,Au (hk.sep _ w rfl)];exact n
     -- its kind within the block
     rcases Z with z | z | z
     ·exact q0Q z (hk.nl _ w rfl)
     ·exact .inl z
     ·exact .inr z
 ·rcases I.blkL hk e with z | z
  ·exact⟨none,hown x c z.1⟩
  ·obtain⟨v,z⟩:=I.cell x c z
   exact⟨v,z.keeps keep⟩
 ·show(List.replicate own.length none++js.map λj=>(σ[j]?).join).length=(own++js.map λj=>X.N.getD j Str.empty).length
  simp
def EG(env:Env)(ifs:L3):Sem Bool:=forIn ifs true λc r=>if r=true then do let ok <- isTrue c env (eval c env);pure (ForInStep.yield ok) else pure (ForInStep.yield r)
theorem uc{prog:LV}{A:LX}{R:Result->Shared->Prop}{s:LP}{elt target iter:Expr}{ifs:L3}{scope:Scope}{pos:Pos}{it acc:Value}{env:Env}(I:Nat->Shared->Prop)
  (turn:∀n s,I n s->wpAny c⁻¹ A (pyNext it) (λr s₁=>match r with
   |none=>R (.ok .next) s₁
   |some v=>wpAny c⁻¹ A (letOwnedTupleGo target it v) (λ_ s₁'=>wpAny c⁻¹ A (assign target env v) (λ_ s₂=>
     wpAny c⁻¹ A (EG env ifs) (λok s₃=>
      if ok=true then wpAny c⁻¹ A (eval elt env) (λx s₄=>
       wpAny c⁻¹ A (call (.builtin "list.append") [acc,x]) (λ_ s₅=>∃m,m<n/\I m s₅) (λ_ _=>False) s₄) (λ_ _=>False) s₃
      else ∃m,m<n/\I m s₃) (λ_ _=>False) s₂) (λ_ _=>False) s₁') (λ_ _=>False) s₁) (λ_ _=>False) s)
  (n:Nat) (h:I n s) :
  codeAny c⁻¹ A (.compLoop (.ListComp elt [⟨target,iter,ifs,0⟩] scope pos) 0 it acc env) R s:=by
 refine codeAny_loop rfl I (λn s o=>?_) n h;show wpAny _ A ((compTurn (.ListComp elt [⟨target,iter,ifs,0⟩] scope pos) 0 it acc env).onRaise (λx=>do noteFrame x env;theTreesLotGoes x)) _ _ s;refine wpAny_noted ?_;rw[compTurn_list];have up:∀{α:Type} {t:Sem α} {Q Q':α->Shared->Prop} {E':LL} {s:LP},wpAny c⁻¹ A t Q (λ_ _=>False) s->(∀a s,Q a s->Q' a s)->wpAny c⁻¹ A t Q' E' s:=
  λh l=>q0X h l λ_ _ f=>f.elim
 refine q04 (wpAny_standAt (q04 (up (turn n s o) λr s₁ e=>?_)));cases r with
 |none=>exact q05 e
 |some v=>
  refine q04 (up e λ_ s₁' b=>q04 (up b λ_ s₂ k=>q04 (up k λok s₃ c=>?_)));cases ok with
  |false=>exact q05 ⟨rfl,c⟩
  |true=>
   exact q04 (q04 (up c λx s₄ j=>q04 (up j λ_ s₅ g=>q05 (q05 ⟨rfl,g⟩))))
def GD(X:Cx)(ifs:L3)(t:TT):Prop:=
 ∀(pins:LN) (s:LP) (σ:St) (H:Hp) (Q:Bool->Hp->Prop),Inv X pins σ H s->t σ H Q->wpAny d⁻¹ X.A (EG X.env ifs) (TP X pins σ Q) X.xe s
def yJ:TT:=λ_ H Q=>Q true H
theorem cJ:GD X [] yJ:=λpins s σ H Q I h=>wpAny_tests_nil ⟨H,I,h⟩
theorem n_{t:TT}(h:PT X c t):GD X [c] t:=λpins s σ H Q I q=>wpAny_tests_one (h pins s σ H Q I q)
def gl(J:It)(g:TG)(ti:TT)(te:TE)(σ:St)(H:Hp)(Q:List V->Hp->Prop):Prop:=
 ∃W:Nat->Nat->List V->St->Hp->Prop,(∃m,W 0 m [] σ H)/\∀i m acc σ' H',W i m acc σ' H' ->
  acc.length<sizeLine/\((J.stop i H'/\Q acc H') \/
   (J.go i H'/\∃N:List V->St->Hp->Prop,(∀acc' σ2 H2,N acc' σ2 H2->∃m',m'<m/\W (i+1) m' acc' σ2 H2) /\
    ∀x H2,J.yld i H' x H2->g x σ' H2 λσ2 H3=>ti σ2 H3 λb H4=>if b=true then te σ2 H4 λv H5=>N (acc++[v]) σ2 H5 else N acc σ2 H4))
def yq(k:Nat)(js:LO)(wi:TI)(g:TG)(ti:TT)(te:TE):TE:=λσ H Q=>wi σ H λJ H1=>gl J g ti te (qW k js σ) H1 λacc H'=>∀l,H' l=none->Q (.ref l) (aD H' l (.lst acc))
abbrev gM(its:LQ)(n:Nat):Obj:={cls:=.type "list",data:=.seq its.toArray n}
theorem rK{pins:LN}{σ:St}{H:Hp}{s:LP}{elt tg iter:Expr}{ifs:L3}{scope:Scope}{pos:Pos}{own:LW}{js:LO}{ti:TT}{te:TE}{fp:LR}{it:Addr}{tn:Nat->Heap->Prop}{E:LL}
  {RR:Value->Addr->Result->Shared->Prop} (hc:X.calm=true) (hk:bY scope X.env.scope) (hcap:(js.all λj=>scope.names.contains (X.N.getD j Str.empty,NameKind.free))=true)
  (hg:∀s H fp C,PG (X.blk (oo own js X.N) s H scope fp C) tg g) (hi:∀s H fp C,GD (X.blk (oo own js X.N) s H scope fp C) ifs ti) (he:∀s H fp C,PE (X.blk (oo own js X.N) s H scope fp C) elt te)
  (I:Inv X pins σ H s) (T:vg X.prog X.w X.K tg J fp it tn) (st:tn 0 s.heap) (hf:∀b∈fp,nO X pins H b)
  (hW:gl J g ti te (qW own.length js σ) H Q)
  (hRR:∀(D C:Addr) (s':LP) (H':Hp) (acc:List V) (m:LS),Q acc H'->H' D=none->Inv X pins σ (aD H' D (.lst acc)) s'->s'.heap.Ns C m->aD H' D (.lst acc) C=none->C≠X.env.locals->X.s₀.heap.objs.size<=C ->
   (∀x c,X.env.cells.lookup x=some c->c≠C)->(∀p∈X.pn++pins,p.1≠C)->RR (.ref D) C (.ok .next) s') :
  wpAny d⁻¹ X.A (newList []) (λacc s₃=>wpAny d⁻¹ X.A (newFunctionEnv scope X.env.globals (fk X.env scope.names []) [] X.env.qual none .none (some X.env)) (λcenv s₄=>
   codeAny d⁻¹ X.A (.compStart (.ListComp elt [⟨tg,iter,ifs,0⟩] scope pos) 0 (.ref it) acc {cenv with scope:=relabel scope X.env}) (RR acc cenv.locals) s₄) E s₃) E s:=by
 obtain⟨W,⟨m0,w0⟩,turn⟩:=hW;refine wpAny_newObj_type (fm ?_);dsimp only;generalize b4:s.heap.push {cls:=.type "list",dict:=none,data:=.seq ([]:List Value).toArray}=H2;generalize d1:pushCells (H2.push {cls:=.type "dict",data:=.dict #[]}) scope.names=h₁;have b1:∀b o,(H2.push {cls:=.type "dict",data:=.dict #[]}).get? b=some o->h₁.get? b=some o:=λb o e=>d1▸pushCells_keeps _ _ b o e;have c9:h₁.Ns H2.objs.size λ_=>none:=by
  have q:(H2.push {cls:=.type "dict",data:=.dict #[]}).Ns H2.objs.size λ_=>none:=Heap.Ns.new ..;exact q.at' λo e=>b1 _ o e
 have b2:∀x c,(x,c)∈cellsFrom (H2.objs.size+1) scope.names []->h₁.IsCell c none:=λx c e=>by
  have ok:=cellsFrom_ok scope.names (H2.push {cls:=.type "dict",data:=.dict #[]}) (H2.objs.size+1) [] ⟨λ_ _ hm=>(nomatch hm),List.Pairwise.nil⟩ (by rw[Heap.size_push];exact Lb _);rw[Heap.size_push,d1]at ok;exact(ok.empty x c e).1
 have hC:H2.objs.size=s.heap.objs.size+1:=by rw[<- b4,Heap.size_push]
 have b6:s.heap.objs.size≠H2.objs.size:=by rw[hC];exact K9 (Ll _)
 have L:s.heap.objs.size<=H2.objs.size:=by rw[hC];exact Nat.le_succ _
 have b8:∀b,b<s.heap.objs.size->b≠H2.objs.size/\b≠s.heap.objs.size:=λb l=>⟨by rw[hC];exact K9 (Nat.lt_succ_of_lt l),K9 l⟩;have old:∀b o,s.heap.get? b=some o->h₁.get? b=some o:=λb o e=>b1 b o (KN _ (b4▸KN _ e));have d6:h₁.get? s.heap.objs.size=some (gM [] 0):=b1 _ _ (KN _ (b4▸KU _ rfl));have a0:∀b∈fp,∃o,s.heap.get? b=some o:=λb l=>let ⟨o,e,_⟩:=T.obj 0 _ st b l;⟨o,e⟩
 have c0:tn 0 h₁:=T.keep 0 _ _ st λb _ o e=>old b o e;generalize B:X.blk (oo own js X.N) s H scope fp H2.objs.size=Xb;have I₁:Inv Xb [] (qW own.length js σ) H {s with heap:=h₁}:=B▸An I hk L hf a0 rfl rfl c9 old b2 hcap;have eP:Xb.prog=X.prog:=by rw[<- B];rfl
 have ew:Xb.w=X.w:=by rw[<- B];rfl
 have eK:Xb.K=X.K:=by rw[<- B];rfl
 have eA:Xb.A=X.A:=by rw[<- B];rfl
 have ec:Xb.calm=true:=by rw[<- B];exact hc
 have eE:Xb.env=compEnvC scope (d9 X.env scope H2.objs.size) H2.objs.size X.env:=by rw[<- B];rfl
 have ex:Xb.xe=λ_ _=>False:=by rw[<- B];rfl
 have es:Xb.s₀=s:=by rw[<- B];rfl
 have eh:Xb.H₀=H:=by rw[<- B];rfl
 have ef:Xb.fs=xT X.stack:=by rw[<- B];rfl
 have e1:Xb.ex=fp:=by rw[<- B];rfl
 have ep:Xb.pn=[]:=by rw[<- B];rfl
 have eL:Xb.env.locals=H2.objs.size:=by rw[eE];rfl
 have f0:H s.heap.objs.size=none:=I.hok.fresh (Lb _)
 -- D is no iterator's,no frame's
 have d7:∀b∈fp,b≠s.heap.objs.size:=λb l e=>by
  obtain⟨o,q⟩:=a0 b l;rw[e]at q;exact q0Q (Le q) (Lk _)
 have e9:s.heap.objs.size∉Xb.fs:=λz=>by
  rw[ef]at z;rcases K5.mp (I.stkSub _ z) with q | q
  ·exact q0Q I.lt (by rw[<- q];exact Lk _)
  ·exact I.nofs (Lb _) q
 have a5:∀x c,Xb.env.cells.lookup x=some c->c≠s.heap.objs.size:=λx c e q=>by
  rcases I.blkL hk (C:=H2.objs.size) (x:=x) (c:=c) (by rw[eE]at e;exact e) with⟨_,z,_⟩ | z
  ·rw[q]at z
   exact q0Q L (Nat.not_le.mpr z)
  ·obtain⟨v,o,ho,_⟩:=I.cell x c z
   rw[q]at ho;exact q0Q (Le ho) (Lk _)
 have R:∀{pl:LN} {H':Hp},(∀b∈fp,H' b=none)->(∀p∈pl,p.1=s.heap.objs.size)->∀b∈fp,nO Xb pl H' b:=λhn S b l=>by
  refine⟨hn b l,?_,?_,.inl (by rw[e1];exact l),λx c e=>?_,λp c6=>?_⟩
  ·rw[eL];exact(b8 b (let ⟨o,q⟩:=a0 b l;Le q)).1
  ·rw[ef];intro z
   rcases K5.mp (I.stkSub b z) with q | q
   ·exact(hf b l).2.1 q
   ·exact(hf b l).2.2.1 q
  ·rcases I.blkL hk (C:=H2.objs.size) (x:=x) (c:=c) (by rw[eE]at e;exact e) with⟨_,z,_⟩ | z
   ·intro q
    rw[q]at z;obtain⟨o,q2⟩:=a0 b l;exact q0Q (K8 (Le q2) L) (Nat.not_lt.mpr (q0P z))
   ·exact(hf b l).2.2.2.2.1 x c z
  ·rw[ep,LC]at c6
   rw[S p c6];exact(d7 b l).symm
 have a6:∀s₃:Shared,s₃={s with heap:=h₁} ->
   codeAny d⁻¹ X.A (.compLoop (.ListComp elt [⟨tg,iter,ifs,0⟩] scope pos) 0 (.ref it) (.ref s.heap.objs.size) (compEnvC scope (d9 X.env scope H2.objs.size) H2.objs.size X.env))
    (RR (.ref s.heap.objs.size) H2.objs.size) s₃:=by
  rintro s₃ rfl;refine uc (λn s'=>∃(i:Nat) (acc:List V) (a:LQ) (k:Nat) (σ':St) (H':Hp),Inv Xb [] σ' H' s'/\tn i s'.heap/\(∀b∈fp,H' b=none)/\H' s.heap.objs.size=none/\s'.heap.get? s.heap.objs.size=some (gM a k)/\bh acc a/\W i n acc σ' H')
   ?_ m0 ⟨0,[],[],0,_,H,I₁,c0,λb l=>(hf b l).1,f0,d6,.nil,w0⟩
  rintro n s' ⟨i,acc,a,k,σ',H',I',c2,e0,M,e4,Z,w'⟩;obtain⟨d0,tt⟩:=turn i n acc σ' H' w'
  -- the gathered list,pinned
  have Ip:Inv Xb [(s.heap.objs.size,gM a k)] σ' H' s':=I'.pins_of λp S=>by
   have e:p=(s.heap.objs.size,gM a k):=by simpa using S
   subst e;exact⟨e4,M,by rw[eL];exact b6,e9,λv z=>by cases z⟩
  have b0:∀p∈[(s.heap.objs.size,gM a k)],p.1=s.heap.objs.size:=λp S=>by
   have e:p=(s.heap.objs.size,gM a k):=by simpa using S
   rw[e]
  rcases tt with⟨c1,q⟩ | ⟨go,N,hN,step⟩
  ·have d:=T.done Xb eP ew eK ec i _ s' σ' H' (λ_ _=>False) Ip (R e0 b0) c2 c1
   rw[eA]at d;refine q0X d (λr s1 hr=>?_) λ_ _ z=>z;obtain⟨rfl,I1⟩:=hr;have e3:s1.heap.get? s.heap.objs.size=some (gM a k):=(I1.pin _ (q0C _ (KP.mpr rfl))).1;obtain⟨mC,b3,_⟩:=I1.loc;rw[eL]at b3;obtain⟨oC,_,_,hoC,_⟩:=id b3;have f1:H' H2.objs.size=none:=by have:=I1.free;rwa [eL]at this
   have ub:Un (xT X.stack) fp H H' s.heap s1.heap:=by have:=I1.base;rwa [ef,e1,eh,es]at this
   refine hRR _ _ s1 H' acc mC q M ?_ b3 ?_ ?_ ?_ ?_ ?_
   ·-- di outside
    refine I.call' (ch:=fp) (by have:=I1.os;rwa [es]at this) ⟨λb o e n1 h1 h2=>ub.keep b o e n1 h1 h2,λb o e n1 h1 h2=>ub.slot b o e n1 h1 h2,λb o e n1 h1=>?_,ub.there,λb xs e=>?_,λb o u e=>?_,λb ps e=>?_⟩ ?_ (by have:=I1.bare;exact this) λb l=>?_
    ·rw[ar (λz=>by rw[z]at e;exact q0Q (Le e) (Lk _))]
     exact ub.free b o e n1 h1
    ·rw[ar (aI (ub.tups b xs e) M)]
     exact ub.tups b xs e
    ·rw[ar (aI (ub.frzs b o u e) M)]
     exact ub.frzs b o u e
    ·obtain⟨more,z⟩:=ub.tbls b ps e
     exact⟨more,by rw[ar (aI z M)];exact z⟩
    ·intro b u e
     have a7:=I1.hok;rw[eP,ew]at a7
     by_cases l:b=s.heap.objs.size
     ·subst l
      rw[af]at e;cases e;exact⟨q0P d0,a,k,Z,e3⟩
     ·rw[ar l]at e
      refine(a7 b u e).stay (λc v _ z=>z) (λc z=>?_) λc xs z=>?_
      ·rw[ar (aI z M)];exact z
      ·rw[ar (aI z M)];exact z
    ·exact⟨(hf b l).2.2.2.1,(hf b l).2.1,(hf b l).2.2.2.2.1,(hf b l).2.2.2.2.2⟩
   ·rw[ar b6.symm];exact f1
   ·intro z;have:=I.lt;rw[<- z]at this;exact q0Q this (Nat.not_lt.mpr L)
   ·exact Lj I.sz L
   ·intro x c e z
    obtain⟨v,o,ho,_⟩:=I.cell x c e;rw[z]at ho;exact q0Q (Le ho) (Nat.not_lt.mpr L)
   ·intro p S z
    have:=(I.pin p S).1;rw[z]at this;exact q0Q (Le this) (Nat.not_lt.mpr L)
  ·have d:=T.item Xb eP ew eK ec i _ s' σ' H' (λ_ _=>False) Ip (R e0 b0) c2 go
   rw[eA]at d;refine q0X d (λr s1 hr=>?_) λ_ _ z=>z;obtain⟨u,rfl,d2⟩:=hr;refine q0X d2 (λ_ s2 e8=>?_) λ_ _ z=>z;obtain⟨x,e2,I2,r2,y2,a9,f3⟩:=e8;have f4:=I2.pinned (R f3 b0) (T.obj _ _ a9);have G:=B▸hg s H fp H2.objs.size;have d3:=G _ s2 σ' e2 x u _ f4 r2 (step x e2 y2);rw[eP,ew,eA,ex,eE]at d3;refine q0X d3 (λ_ s3 e7=>?_) λ_ _ z=>z;obtain⟨σ3,H3,I3,q3⟩:=e7;have Gi:=B▸hi s H fp H2.objs.size;have d4:=Gi _ s3 σ3 H3 _ I3 q3;rw[eP,ew,eA,ex,eE]at d4;refine q0X d4 (λb s4 e6=>?_) λ_ _ z=>z;obtain⟨H4,I4,q4⟩:=e6;have U:∀{O:LP} {Y:Hp} {σ5:St},Inv Xb ([(s.heap.objs.size,gM a k)]++oO fp s2.heap) σ5 Y O->O.heap.get? s.heap.objs.size=some (gM a k)/\Y s.heap.objs.size=none/\tn (i+1) O.heap/\∀b∈fp,Y b=none:=fun{O Y σ5} I5=>by
    have pD:=I5.pin (s.heap.objs.size,gM a k) (q0C _ (q0D _ (KP.mpr rfl)));refine⟨pD.1,pD.2.1,T.keep _ _ _ a9 λb l o e=>(I5.pin (b,o) (q0C _ (q0C _ (ic l e)))).1,λb l=>?_⟩;obtain⟨o,e,_⟩:=T.obj _ _ a9 b l;exact(I5.pin (b,o) (q0C _ (q0C _ (ic l e)))).2.1
   have bare:∀{O:LP} {Y:Hp} {σ5:St} {pl:LN},Inv Xb pl σ5 Y O->Inv Xb [] σ5 Y O:=λI5=>I5.pins_of λp S=>nomatch S;cases b with
   |false=>
    obtain⟨m',hm,w5⟩:=hN _ _ _ q4;obtain⟨a1,a2,a3,a4⟩:=U I4;exact⟨m',hm,i+1,acc,a,k,σ3,H4,bare I4,a3,a4,a2,a1,Z,w5⟩
   |true=>
    have Ge:=B▸he s H fp H2.objs.size;have d5:=Ge _ s4 σ3 H4 _ I4 q4;rw[eP,ew,eA,ex,eE]at d5;refine q0X d5 (λy O e5=>?_) λ_ _ z=>z;obtain⟨v,Y,I5,r5,q5⟩:=e5;obtain⟨m',hm,w5⟩:=hN _ _ _ q5;obtain⟨a1,a2,a3,a4⟩:=U I5;have hl:=Z.length;refine call_meets F.slot_list_append ⟨_,a1,rfl⟩ F.entry_list_append (F.args_list_append_2 _ _) (PySem.list_append s.heap.objs.size a.toArray k y (by rw[KW];omega)) ⟨a1,?_⟩;have qu:=PySem.IsL.update a1 (λa8=>a8.push y);have qe:(a.toArray.push y)=(a++[y]).toArray:=by simp
    rw[qe]at qu;have I6:Inv Xb [] σ3 Y {O with heap:=O.heap.update s.heap.objs.size (Obj.mapSeq λa8=>a8.push y),toks:=O.toks}:=
     (bare I5).turned (λb o l e=>(KS O.heap _ (Ne.symm l)).trans e) a2 (by rw[eL];exact b6) (.inr (by rw[es];exact Lb _)) a5 (by rw[ep];intro p S;exact nomatch S)
    refine⟨m',hm,i+1,acc++[v],a++[y],_,σ3,Y,I6,T.keep _ _ _ a3 (λb l o e=>(KS O.heap _ (d7 b l).symm).trans e),a4,a2,qu,Z.append (.cons r5 .nil),w5⟩
 refine codeAny_compStart_list (a6 _ rfl) ?_;exact T.self _ 0 _ _ _ c0 (a6 _ rfl)
theorem cH{elt tg iter:Expr}{ifs:L3}{scope:Scope}{pos:Pos}(own:LW)(js:LO){wi:TI}{g:TG}{ti:TT}{te:TE}(hc:X.calm=true)(hk:bY scope X.env.scope)
  (hcap:(js.all λj=>scope.names.contains (X.N.getD j Str.empty,NameKind.free))=true) (hw:PI X tg iter wi)
  (hg:∀s H fp C,PG (X.blk (oo own js X.N) s H scope fp C) tg g) (hi:∀s H fp C,GD (X.blk (oo own js X.N) s H scope fp C) ifs ti) (he:∀s H fp C,PE (X.blk (oo own js X.N) s H scope fp C) elt te)
  (hs:autoParam (∀x,foldedSetIterable iter X.env x=pure x) zz4._auto_1):PE X (.ListComp elt [⟨tg,iter,ifs,0⟩] scope pos) (yq own.length js wi g ti te):=by
 intro c s σ H Q I h;rw[eval_ListComp];refine wpAny_comprehension_free (use:=none) rfl hs (jq (I.capFree hk)) hk.kind hk.loc (ci (hw c s σ H _ I h) λv s1 h1=>ci h1 λitv s2 h2=>?_);obtain⟨it,fp,tn,J,H2,rfl,S,T,k,f2,O⟩:=h2;refine rK (RR:=λa C=>compPost d⁻¹ X.A X.xe none (EP X c σ Q) a C) (Q:=λa z=>∀l,z l=none->Q (.ref l) (aD z l (.lst a))) hc hk hcap hg hi he S T k f2 O ?_;intro D C G z a m q R U L y u n r p;refine⟨m,L,λh' B=>?_⟩;exact⟨.ref D,_,U.turned (t':=G.toks) (λb o M e=>(B.2 b M).trans e) y u (.inr n) r p,rfl,q D R⟩
theorem iN{i:Nat}{x:Str}{elt tg iter:Expr}{ifs:L3}{scope:Scope}{pos spos:Pos}{px:Pos}(own:LW)(js:LO){wi:TI}{g:TG}{ti:TT}{te:TE}(hN:X.N.Nodup)(hxi:X.N[i]?=some x)(hx:Loc X.env.scope x)
  (hsw:swapsWith (.ListComp elt [⟨tg,iter,ifs,0⟩] scope pos) (some (.Name x px)) spos.line X.env=pure true)
  (hc:X.calm=true) (hk:bY scope X.env.scope)
  (hcap:(js.all λj=>scope.names.contains (X.N.getD j Str.empty,NameKind.free))=true) (hw:PI X tg iter wi)
  (hg:∀s H fp C,PG (X.blk (oo own js X.N) s H scope fp C) tg g) (hi:∀s H fp C,GD (X.blk (oo own js X.N) s H scope fp C) ifs ti) (he:∀s H fp C,PE (X.blk (oo own js X.N) s H scope fp C) elt te)
  (hs:autoParam (∀x,foldedSetIterable iter X.env x=pure x) zz4._auto_1) (hf:autoParam (X.fn x=true\/X.env.scope.names.lookup x=some .local) zz3._auto_1) :
  PS X (.Assign [.Name x px] (.ListComp elt [⟨tg,iter,ifs,0⟩] scope pos) spos) (za (yq own.length js wi g ti te) (j_ i)):=by
 intro c s σ H Dn I h;rw[exec_Assign_Name_used _ _ _ _ hsw];refine q04 (wpAny_standAt (q04 ?_));show wpAny _ _ (do let _ <- comprehension (.ListComp elt [⟨tg,iter,ifs,0⟩] scope pos) scope X.env _ (newList []) false (eval iter X.env) (some (assign (.Name x px) X.env))) _ _ s;refine q04 (q0X (wpAny_comprehension_free (use:=some (assign (.Name x px) X.env)) (Q:=λ_ n=>SP X c Dn .next n) (E:=X.xe) rfl hs (jq (I.capFree hk)) hk.kind hk.loc ?_) (λ_ n q=>q05 (q05 q)) λ_ _ z=>z);refine(ci (hw c s σ H _ I h) λv s1 h1=>ci h1 λitv s2 h2=>?_);obtain⟨it,fp,tn,J,H2,rfl,I2,T,u,f2,hW⟩:=h2;refine rK (RR:=λk C=>compPost d⁻¹ X.A X.xe (some (assign (.Name x px) X.env)) (λ_ n=>SP X c Dn .next n) k C) (Q:=λk U=>∀l,U l=none->j_ i (.ref l) σ (aD U l (.lst k)) Dn.nx) hc hk hcap hg hi he I2 T u f2 hW ?_;intro D C n U k m q hD I' Y R r L p M;show wpAny _ _ (assign (.Name x px) X.env (.ref D)) _ _ n;refine wpAny_assign_Name (rC I' hN hxi hx (v:=.ref D) rfl (λG S B=>?_) hf);obtain⟨a,B,ha⟩:=B;have O:C≠a:=by
  rcases ha with z | z
  ·rw[z];exact r
  ·exact(p x a z).symm
 refine⟨m,Y.sameBut B O,λh' y=>?_⟩;exact⟨_,_,S.turned (t':=G.toks) (λb o Z e=>(y.2 b Z).trans e) R r (.inr L) p M,q D hD⟩
end
section
variable {K:LM}{g:TG}{ti:TT}{te:TE}{σ:St}{H:Hp}{Q:List V->Hp->Prop}
theorem jP{J:It}{n:Nat}(Pv:Nat->List V->St->Hp->Prop)(h0:Pv 0 [] σ H)(hz:∀i acc σ H,Pv i acc σ H->acc.length<sizeLine)(hi:∀i acc σ H,Pv i acc σ H->i<=n)
  (stop:∀acc σ H,Pv n acc σ H->J.stop n H) (go:∀i acc σ H,i<n->Pv i acc σ H->J.go i H)
  (hs:∀i x acc σ H H2,i<n->Pv i acc σ H->J.yld i H x H2->g x σ H2 λσ2 H3=>ti σ2 H3 λb H4=>if b=true then te σ2 H4 λv H5=>Pv (i+1) (acc++[v]) σ2 H5 else Pv (i+1) acc σ2 H4)
  (he:∀acc σ H,Pv n acc σ H->Q acc H) :
  gl J g ti te σ H Q:=by
 refine⟨λi m acc σ H=>Pv i acc σ H/\m=n+1-i,⟨n+1,h0,rfl⟩,?_⟩;rintro i m acc σ' a ⟨w,rfl⟩;refine⟨hz i acc σ' a w,?_⟩;have hle:=hi i acc σ' a w;rcases Nat.lt_or_ge i n with c | hge
 ·refine .inr ⟨go i acc σ' a c w,λacc' σ2 H2=>Pv (i+1) acc' σ2 H2,λacc' σ2 H2 w2=>⟨n+1-(i+1),?_,w2,rfl⟩,λx H2 y=>hs i x acc σ' a H2 c w y⟩
  have:=hi (i+1) acc' σ2 H2 w2;omega
 ·have e:i=n:=by omega
  subst e;exact .inl ⟨stop acc σ' a w,he acc σ' a w⟩
theorem eC{xs:List V}(Pv:Nat->List V->St->Hp->Prop)(h0:Pv 0 [] σ H)(hz:∀i acc σ H,Pv i acc σ H->acc.length<sizeLine)(hi:∀i acc σ H,Pv i acc σ H->i<=xs.length)
  (hl:∀i acc σ H,Pv i acc σ H->aQ K H a xs)
  (hs:∀i x acc σ H,xs[i]?=some x->Pv i acc σ H->g x σ H λσ2 H3=>ti σ2 H3 λb H4=>if b=true then te σ2 H4 λv H5=>Pv (i+1) (acc++[v]) σ2 H5 else Pv (i+1) acc σ2 H4)
  (he:∀acc σ H,Pv xs.length acc σ H->Q acc H):gl (AJ K a) g ti te σ H Q:=by
 exact jP (J:=AJ K a) (g:=g) (ti:=ti) (te:=te) (Q:=Q) (n:=xs.length) Pv h0 hz hi (λacc σ H w=>⟨xs,hl _ _ _ _ w,Lb _⟩)
  (λi acc σ H hlt w=>⟨xs,xs[i],hl _ _ _ _ w,KL hlt⟩) (λi x acc σ H H2 hlt w y=>by obtain⟨rfl,c⟩:=y;exact hs i x acc σ H2 (c xs (hl _ _ _ _ w)) w) he
theorem pR{lo:Int}{n:Nat}(Pv:Nat->List V->St->Hp->Prop)(h0:Pv 0 [] σ H)(hz:∀i acc σ H,Pv i acc σ H->acc.length<sizeLine)(hi:∀i acc σ H,Pv i acc σ H->i<=n)
  (hs:∀i acc σ H,i<n->Pv i acc σ H->g (.int (lo+i)) σ H λσ2 H3=>ti σ2 H3 λb H4=>if b=true then te σ2 H4 λv H5=>Pv (i+1) (acc++[v]) σ2 H5 else Pv (i+1) acc σ2 H4)
  (he:∀acc σ H,Pv n acc σ H->Q acc H):gl (zq lo n) g ti te σ H Q:=by
 exact jP (J:=zq lo n) (g:=g) (ti:=ti) (te:=te) (Q:=Q) (n:=n) Pv h0 hz hi (λacc σ H w=>Lb _) (λi acc σ H hlt w=>hlt) (λi x acc σ H H2 hlt w y=>by obtain⟨rfl,rfl⟩:=y;exact hs i acc σ H2 hlt w) he
end
structure dF(P:LV)(w:LY)(K:LM)(mg:LS)(base:Heap)(CX:j9)(k:Nat)(x:Str)(ps:LW)(sp:Sp):Prop where
 ex:∃(f:Addr) (fd:LU),bj P w K mg base CX k f fd ps sp/\mg x=some (.ref f)/\PySem.W.keepIn K (.ref f)=true/\dO K fd ps []
structure NB(mg:LS):Prop where
 len:mg "len"=none
 range:mg "range"=none
 list:mg "list"=none
 tuple:mg "tuple"=none
 isinstance:mg "isinstance"=none
 int:mg "int"=none
 bool:mg "bool"=none
 str:mg "str"=none
 reversed:mg "reversed"=none
 all:mg "all"=none
 enumerate:mg "enumerate"=none
 zip:mg "zip"=none
 sorted:mg "sorted"=none
 set:mg "set"=none
 dict:mg "dict"=none
 min:mg "min"=none
 max:mg "max"=none
 sum:mg "sum"=none
 ValueError:mg "ValueError"=none
section
variable {X:Cx}{CX:j9}{k:Nat}{x:Str}{ps:LW}{sp:Sp}{E:XK}{p pos:Pos}{e:Expr}{es:L3}{t:TA}
theorem aJ(C:dF X.prog X.w X.K X.mg X.base CX k x ps sp)(hr:cQ k X.A)(hg:Gl X x)(hx:dC CX X E)(ha:PA X (e::es) t)(hdb:autoParam g⁻¹ zz2._auto_1)
  (hst:autoParam (starEach (e::es) X.env=(false,eval e X.env)::starEach es X.env) zz0._auto_1) (hpl:autoParam e⁻¹ zz0._auto_1):PE X (.Call (.Name x p) (e::es) [] pos) (kZ sp [] E t):=by
 obtain⟨f,fd,F,a,b,c⟩:=C.ex;exact yw F hr hg a b c .nil hx ha hdb hst hpl
theorem q00(C:dF X.prog X.w X.K X.mg X.base bu k x ps sp)(hr:cQ j X.A)(ha:PA X (e::es) t)(hk:autoParam (k<=j) zz1._auto_1)(hg:autoParam (Gl X x) zz0._auto_1)(hdb:autoParam g⁻¹ zz2._auto_1)
  (hst:autoParam (starEach (e::es) X.env=(false,eval e X.env)::starEach es X.env) zz0._auto_1) (hpl:autoParam e⁻¹ zz0._auto_1):PE X (.Call (.Name x p) (e::es) [] pos) (kZ sp [] E0 t):=aJ C (hr.mono hk) hg aK ha hdb hst hpl
end
section
variable {X:Cx}{tg:Expr}
def BM(_ j:Int):Prop:=0<j/\j<18446744073709551616
theorem bg:bC X (binaryOp .FloorDiv) (rI BM λi j=>.int (i/j)):=Hx λi j _ _ _ _ _ hc q=>by
 have h1:(0:Int)<j:=hc.1;have h2:j<18446744073709551616:=hc.2;refine floordiv_int ⋯ (by rw[Int.fdiv_eq_ediv_of_nonneg i ⋯];exact q) (.inl (PyProof.noPylong_of_log2 ?_));have h64:j.natAbs.log2<64:=(Nat.log2_lt ⋯).mpr ⋯;omega
theorem ie:∀{ys:LW} {us:LQ},bh (ys.map V.str) us->StrsAre us ys
 | [],_,.nil=>.nil
 |y::ys,_,.cons r t=>by
  obtain⟨tk,rfl⟩:=r;exact .cons y tk (ie t)
def vp(K:LM):V->List V->Hp->VK->Prop:=λx xs H Q=>∃z p ys,x=.str z/\xs=[.ref p]/\(aQ K H p (ys.map V.str)\/cR K H p (ys.map V.str))/\(ys.map (·.length)).sum+ys.length*z.length<=16777216/\Q (.str (Txt.join z ys)) H
theorem D9:Gx X "str.join" (vp X.K):=by
 intro pins s σ H x xs v us Q I rx rv h;obtain⟨z,p,ys,rfl,rfl,hs,e,q⟩:=h;obtain⟨t,rfl⟩:=rx;obtain⟨u,rfl,g⟩:=rv.one;cases g;rcases hs with hs | hs
 ·obtain⟨c,r,b,_⟩:=I.list hs
  exact join_list b.isList (by simpa using ie r) e λa k=>⟨.str _,H,I.tok k,⟨a,rfl⟩,q⟩
 ·obtain⟨c,r,b,_⟩:=I.tuple hs
  exact join_tuple b (by simpa using ie r) e λa k=>⟨.str _,H,I.tok k,⟨a,rfl⟩,q⟩
def F_(x:Str):It:=⟨λi _=>i<x.cps.size,λi H v H'=>H'=H/\∃c,x.cps[i]?=some c/\v=.str ⟨#[c]⟩,λi _=>x.cps.size<=i⟩
theorem BH{K:LM}(x:Str)(t:Tok)(it:Addr):vg P w K tg (F_ x) [it] it (λi h=>h.IsStrIter it (strIterType x) x t i) where
 mem:=by simp
 obj:=λi h g b l=>by
  have e:b=it:=by simpa using l
  subst e;obtain⟨o,e,c,d⟩:=g;exact⟨o,e,λv z=>by rw[d]at z;cases z⟩
 keep:=λi h m g k=>by
  obtain⟨o,e,c,d⟩:=g;exact⟨o,k it (by simp) o e,c,d⟩
 item:=by
  intro X M G O L i j s σ H E I hf g hg;subst M G O;obtain⟨D,C,f2,B,y,r⟩:=hf it (by simp);have J:i<x.cps.size:=hg;have p:x.cps[i]?=some x.cps[i]:=Array.getElem?_eq_getElem J;have fin:∀m,m.IsStrIter it (strIterType x) x t (i+1)->Heap.SameBut it s.heap m->∃u,(some (Value.str ⟨#[x.cps[i]]⟩ s.toks))=some u /\
    wpAny d⁻¹ X.A (letOwnedTupleGo tg (.ref it) u) (λ_ S=>∃v H',Inv X j σ H' S/\bG v u/\(F_ x).yld i H v H'/\S.heap.IsStrIter it (strIterType x) x t (i+1)/\∀b∈[it],H' b=none) E {s with heap:=m,toks:=s.toks+1}:=λm q T=>by
   have U:Inv X j σ H {s with heap:=m,toks:=s.toks+1}:=I.turned (λb o l e=>(T.2 b l).trans e) D C B y r;obtain⟨o,e,c,d⟩:=id q;refine⟨_,rfl,yd (s:={s with heap:=m,toks:=s.toks+1}) e c d ?_ ⟨.str ⟨#[x.cps[i]]⟩,H,U,⟨_,rfl⟩,⟨rfl,_,p,rfl⟩,q,λb l=>(hf b l).1⟩⟩;unfold strIterType
   split<;>decide
  cases n:x.cps.all (· < 128) with
  |true=>
   have a:strIterType x="str_ascii_iterator":=by unfold strIterType;rw[n];rfl
   rw[a]at g fin ⊢;exact wpAny_pyNext_ascii_item g p fin
  |false=>
   have a:strIterType x="str_iterator":=by unfold strIterType;rw[n];rfl
   rw[a]at g fin ⊢;exact wpAny_pyNext_wide_item g p fin
 done:=by
  intro X M G O L i j s σ H E I hf g hg;subst M G O;obtain⟨D,C,f2,B,y,r⟩:=hf it (by simp);have J:x.cps.size<=i:=hg;have p:x.cps[i]?=none:=Array.getElem?_eq_none J;cases n:x.cps.all (· < 128) with
  |true=>
   have a:strIterType x="str_ascii_iterator":=by unfold strIterType;rw[n];rfl
   rw[a]at g;exact wpAny_pyNext_ascii_end (I.ok.hd L) g p λm R=>⟨rfl,I.turned (t':=s.toks) (λb o l e=>R b o l e) D C B y r⟩
  |false=>
   have a:strIterType x="str_iterator":=by unfold strIterType;rw[n];rfl
   rw[a]at g;exact wpAny_pyNext_wide_end (I.ok.hd L) g p λm R=>⟨rfl,I.turned (t':=s.toks) (λb o l e=>R b o l e) D C B y r⟩
 self:=λA i s Q E g h=>by
  cases n:x.cps.all (· < 128) with
  |true=>
   have a:strIterType x="str_ascii_iterator":=by unfold strIterType;rw[n];rfl
   rw[a]at g;exact wpAny_pyIter_striter_ascii g h
  |false=>
   have a:strIterType x="str_iterator":=by unfold strIterType;rw[n];rfl
   rw[a]at g;exact wpAny_pyIter_striter_wide g h
def FC(tl:TE):TI:=λσ H R=>tl σ H λv H1=>∃x,v=.str x/\R (F_ x) H1
theorem Fu{tl:TE}(hl:PE X l tl):PI X tg l (FC tl):=by
 intro a s σ H R I h;refine ci (hl a s σ H _ I h) λv c ⟨x,H1,g,j,k⟩=>?_;obtain⟨x,rfl,q⟩:=k;obtain⟨t,rfl⟩:=j;refine wpAny_pyIter_strU ?_;refine⟨c.heap.objs.size,[c.heap.objs.size],_,_,H1,rfl,g.kept (t':=c.toks) λb o e=>KN _ e,BH x t _,⟨_,KU _ rfl,rfl,rfl⟩,λb m=>?_,q⟩;have e:b=c.heap.objs.size:=by simpa using m
 subst e;exact g.fpOk (Lb _) (g.hok.fresh (Lb _))
def GC(K:LM)(a:Addr)(n:Nat):It:=
 ⟨λi H=>∃xs x,aQ K H a xs/\i<n/\xs[n-1-i]?=some x,λi H x H'=>H'=H/\∀xs,aQ K H a xs->xs[n-1-i]?=some x,λi _=>i=n⟩
theorem Ar{K:LM}(a it:Addr)(n:Nat):vg P w K tg (GC K a n) [it] it (λi h=>h.IsRevIter it a ((n:Int)-1-(i:Int))) where
 mem:=by simp
 obj:=λi h g b m=>by
  have e:b=it:=by simpa using m
  subst e;obtain⟨o,e,c,d⟩:=g;exact⟨o,e,λv z=>by rw[d]at z;cases z⟩
 keep:=λi h r g k=>g.at λo e=>k it (by simp) o e
 item:=by
  intro X B y C T i j s σ H E I hf g hg;subst B y C;obtain⟨xs,x,R,S,O⟩:=hg;obtain⟨its,Y,p,hz⟩:=I.list R;obtain⟨u,hu,Z⟩:=Y.get O;obtain⟨M,L,f2,J,G,D⟩:=hf it (by simp);have e:(n:Int)-1-(i:Int)=((n-1-i:Nat):Int):=by omega
  have q:=g;rw[e]at q;refine wpAny_pyNext_rev_item q p.isList (x:=u) (by simpa using hu) λr l U=>?_;have e2:((n-1-i:Nat):Int)-1=(n:Int)-1-((i+1:Nat):Int):=by omega
  rw[e2]at l;have I1:Inv X j σ H {s with heap:=r }:=I.turned (t':=s.toks) (λb o m e=>(U.2 b m).trans e) M L J G D;obtain⟨o,e,c,d⟩:=id l;exact⟨u,rfl,yd (s:={s with heap:=r }) e c d b⁻¹ ⟨x,H,I1,Z,⟨rfl,λys hy=>by rw[I.list_inj hy R];exact O⟩,l,λb m=>(hf b m).1⟩⟩
 done:=by
  intro X B y C T i j s σ H E I hf g hg;subst B y C;obtain⟨M,L,f2,J,G,D⟩:=hf it (by simp);have S:i=n:=hg;subst S;have e:(i:Int)-1-(i:Int) = -1:=by omega
  rw[e]at g;exact wpAny_pyNext_rev_end (I.ok.hd T) g λr eb=>⟨rfl,I.turned (t':=s.toks) (λb o m e=>eb b o m e) M L J G D⟩
 self:=λ_ _ _ _ _ g h=>wpAny_pyIter_revIter g h
def C8(K:LM)(ta:TA):TI:=λσ H R=>ta σ H λvs H1=>∃a xs,vs=[.ref a]/\aQ K H1 a xs/\R (GC K a xs.length) H1
theorem uD{a:Expr}{ta:TA}{p pos:Pos}(hg:Gl X "reversed")(hm:X.mg "reversed"=none)(ha:PA X [a] ta)(hs:autoParam (starEach [a] X.env=[(false,eval a X.env)]) zz0._auto_1):PI X tg (.Call (.Name "reversed" p) [a] [] pos) (C8 X.K ta):=by
 intro g s σ H R I h;refine Call_ (fc I hg hm boot_reversed (PyProof.Rows.callWith_type1 (ci (ha pos g s σ H _ I h) λus c ⟨vs,H1,m,x,y⟩=>?_) hs rfl));obtain⟨l,j,rfl,B,q⟩:=y;obtain⟨u,rfl,w⟩:=x.one;cases w;obtain⟨n,v,z,hz⟩:=m.list B;have k:=v.length;refine call_reversed_list z.isList ?_;have D:n.toArray.size=j.length:=by rw[KW,k]
 rw[D];have G:Inv X g σ H1 {c with heap:=c.heap.push (revObj l ((j.length:Int)-1))}:=m.kept (t':=c.toks) λb o e=>KN _ e;have r:(c.heap.push (revObj l ((j.length:Int)-1))).IsRevIter c.heap.objs.size l ((j.length:Int)-1-((0:Nat):Int)):=⟨_,KU _ rfl,rfl,by simp[revObj]⟩;refine wpAny_pyIter_revIter r ?_;refine⟨c.heap.objs.size,[c.heap.objs.size],_,_,H1,rfl,G,Ar l _ j.length,r,λb C=>?_,q⟩;have e:b=c.heap.objs.size:=by simpa using C
 subst e;exact m.fpOk (Lb _) (m.hok.fresh (Lb _))
def Fj:V->Option Int->Option Int->Hp->VK->Prop:=λx lo hi H Q=>∃z,x=.str z/\z.length<=sizeLine/\Q (.str (Txt.slice z lo hi)) H
theorem oU:HS X Fj:=by
 intro a s σ H x v vl vu lo hi sl Q I rx hs pl pu h;obtain⟨z,rfl,b,q⟩:=h;obtain⟨t,rfl⟩:=rx;have fin:∀c k,EP X a σ Q (.str (Txt.slice z lo hi) c) {s with toks:=k}:=λc k=>⟨.str _,H,I.tok k,⟨c,rfl⟩,q⟩;refine⟨"str",_,F.slot_str_getitem.lookup,typeIs_str _ _ _,?_⟩;cases pl with
 |none=>
  cases pu with
  |none=>exact wpAny_getItem_str_slice (l:=none) (u:=none) (st:=none) hs rfl (post_val_or_str ⟨Lj (Txt.slice_le z _ _) b,fin⟩)
  |int j uj=>exact wpAny_getItem_str_slice (l:=none) (u:=some (j,uj)) (st:=none) hs rfl (post_val_or_str ⟨Lj (Txt.slice_le z _ _) b,fin⟩)
 |int i ui=>
  cases pu with
  |none=>exact wpAny_getItem_str_slice (l:=some (i,ui)) (u:=none) (st:=none) hs rfl (post_val_or_str ⟨Lj (Txt.slice_le z _ _) b,fin⟩)
  |int j uj=>exact wpAny_getItem_str_slice (l:=some (i,ui)) (u:=some (j,uj)) (st:=none) hs rfl (post_val_or_str ⟨Lj (Txt.slice_le z _ _) b,fin⟩)
def HV(sep:Str)(ta:TA):TE:=λσ H Q=>ta σ H λvs H1=>∃x,vs=[.str x]/\x.length<=1000/\sep.length<=1000/\Q (.str (Txt.join sep (x.cps.toList.reverse.map λc=>(⟨#[c]⟩:Str)))) H1
theorem pQ{e:Expr}{ta:TA}{sep:Str}{j:Nat}{ap p1 p2 cpos:Pos}(hc:X.calm=true)(hg:Gl X "reversed")(hm:X.mg "reversed"=none)(ha:PA X [e] ta)
  (hfew:autoParam (((backTo cpos (starEach [.Call (.Name "reversed" p1) [e] [] p2] X.env)).all (λx=>!x.1)&&(backToKw cpos (keywordEach [] X.env)).all (λx=>x.1.isSome)
   && decide ([Expr.Call (.Name "reversed" p1) [e] [] p2].length+([]:List Keyword).length+(if([]:List Keyword).isEmpty then 0 else 1)<30))=true) zz0._auto_1)
  (hline:autoParam ((ap.endLine==cpos.line)=true) zz0._auto_1) (hs:autoParam (starEach [e] X.env=[(false,eval e X.env)]) zz0._auto_1) :
  PE X (.Call (.Attribute (.Constant (.str sep) j p0) "join" ap) [.Call (.Name "reversed" p1) [e] [] p2] [] cpos) (HV sep ta):=by
 intro c s σ H Q I h;refine wpAny_Call_method_late rfl hfew hline rfl (ci (pU (X:=X) c s σ H (λv H1=>v=.str sep/\H1=H) I ⟨rfl,rfl⟩) λv n ⟨x,H1,r,C,J⟩=>?_);obtain⟨rfl,rfl⟩:=J;obtain⟨t0,rfl⟩:=C;refine⟨"str",_,F.plainAttrs_str,F.slot_str_join,F.type_str_join,typeIs_str _ _ _,(λa z=>nomatch z),?_⟩;refine Calls.callWith_builtin rfl (Calls.evalArgs_plain ?_);show wpAny _ _ (spliced ((false,eval (.Call (.Name "reversed" p1) [e] [] p2) X.env)::[])) _ _ n;refine Calls.spliced_cons ?_;refine Call_ (fc r hg hm boot_reversed (PyProof.Rows.callWith_type1 (ci (ha p2 c n σ H1 _ r h) λus g ⟨vs,H2,m,B,D⟩=>?_) hs rfl));obtain⟨x,rfl,G,l,q⟩:=D;obtain⟨u,rfl,y⟩:=B.one;obtain⟨t,rfl⟩:=y;have hsl:sizeLine=16777216:=q0W;refine lP ⋯ (Calls.spliced_nil ?_);have p:Inv X c σ H2 {g with heap:=g.heap.push (xy x t ((x.length:Int)-1)),toks:=g.toks+1+1}:=m.kept λb o e=>KN _ e;have M:=m.fpOk (b:=g.heap.objs.size) (H':=H2) (Lb _) (m.hok.fresh (Lb _));obtain⟨U,T,f2,S,R,O⟩:=M;refine Bq (p.ok.hd hc) (I:=g.heap.objs.size) (x:=x) (t:=t) ⟨_,KU _ rfl,rfl,rfl⟩ G l λw t' k keep Z ed Y=>?_;obtain⟨h',g',d',k',o'⟩:=w;cases Z;cases ed;cases Y;exact⟨.str _,H2,p.turned (t':=k) (λb o L e=>keep b o L e) U T S R O,⟨t',rfl⟩,q⟩
def C4:V->Value
 | .ty n=>.type n
 | .ref a=>.ref a
 |_=>.none
def uB:V->Bool
 | .ty _=>true
 | .ref _=>true
 |_=>false
theorem D3(r:bG c u)(h:uB c=true):u=C4 c:=by
 cases c with
 |ty n=>exact r
 |ref a=>exact r
 |_=>cases h
def CT(K:LM):List V->Hp->VK->Prop:=λxs H Q=>∃x c t b,xs=[x,c]/\uB c=true/\jw K H x t/\PySem.W.kitOne K t (C4 c)=some b/\Q (.bl b) H
theorem c3:g7 X (.builtin "isinstance") (CT X.K):=by
 intro pins s σ H xs us Q I r h;obtain⟨x,c,t,b,rfl,k,ty,e,q⟩:=h;obtain⟨u,v,rfl,j,g⟩:=r.two;rw[D3 g k];exact zW I j ty e λa=>⟨.bl b,H,I.tok a,rfl,q⟩
theorem vi(K:LM)(n:String):PySem.W.kitOne K (.type n) (.type n)=some true:=by
 unfold PySem.W.kitOne;rw[q07 (beq_self_eq_true _)]
inductive Dt where
 |non | bl (b:Bool) | int (i:Int) | str (x:Str) | lst (ds:List Dt) | tup (ds:List Dt)
mutual
def iP(K:LM)(H:Hp):Dt->V->Prop
 | .non,v=>v=.non
 | .bl b,v=>v=.bl b
 | .int i,v=>v=.int i
 | .str x,v=>v=.str x
 | .lst ds,v=>∃a xs,v=.ref a/\aQ K H a xs/\dB K H ds xs
 | .tup ds,v=>∃a xs,v=.ref a/\cR K H a xs/\dB K H ds xs
def dB(K:LM)(H:Hp):List Dt->List V->Prop
 | [],xs=>xs=[]
 |d::ds,xs=>∃x r,xs=x::r/\iP K H d x/\dB K H ds r
end
mutual
def Dt.dep:Dt->Nat
 | .lst ds=>Dt.deps ds+1
 | .tup ds=>Dt.deps ds+1
 |_=>0
def Dt.deps:List Dt->Nat
 | []=>0
 |d::ds=>max (Dt.dep d) (Dt.deps ds)
end
theorem dB.length{K:LM}:∀{ds:List Dt} {xs:List V},dB K H ds xs->xs.length=ds.length
 | [],_,h=>by unfold dB at h;rw[h];rfl
 |d::ds,xs,h=>by
  unfold dB at h;obtain⟨x,r,rfl,_,h2⟩:=h;simp[dB.length h2]
theorem dB.get{K:LM}:∀{ds:List Dt} {xs:List V} {j:Nat} {x:V},dB K H ds xs->xs[j]?=some x->∃d,ds[j]?=some d/\iP K H d x
 | [],_,_,_,h,e=>by unfold dB at h;rw[h]at e;simp at e
 |d::ds,xs,j,x,h,e=>by
  unfold dB at h;obtain⟨y,r,rfl,h1,h2⟩:=h;cases j with
  |zero=>simp at e;subst e;exact⟨d,rfl,h1⟩
  |succ j=>
   obtain⟨d',e1,e2⟩:=dB.get (j:=j) h2 (by simpa using e);exact⟨d',by simpa using e1,e2⟩
theorem gR:∀{ds:List Dt} {j:Nat} {d:Dt},ds[j]?=some d->d.dep<=Dt.deps ds
 | [],_,_,e=>by simp at e
 |d'::ds,0,d,e=>by simp at e;subst e;unfold Dt.deps;omega
 |d'::ds,j+1,d,e=>by
  have:=gR (ds:=ds) (j:=j) (by simpa using e);unfold Dt.deps;omega
theorem fJ(n:Nat):(List.range n).all (λ_=>true)=true:=by simp
theorem xj{pins:LN}{σ:St}(I:Inv X pins σ H s):∀(n:Nat) (d:Dt) (A:LX) {v u:V} {vv uu:Value},d.dep<=n->A.units+n<cLine->iP X.K H d v->iP X.K H d u->bG v vv->bG u uu->SeqAt.EqAt A s vv uu true:=by
 intro n
 induction n with
 |zero=>
  intro d A v u vv uu S hA h1 h2 l k;cases d with
  |non=>unfold iP at h1 h2;subst h1 h2;have:=iJ (A:=A) (s:=s) l k rfl rfl;exact this
  |bl b=>unfold iP at h1 h2;subst h1 h2;have:=iJ (A:=A) (s:=s) l k rfl rfl;simpa[Eu]using this
  |int i=>unfold iP at h1 h2;subst h1 h2;have:=iJ (A:=A) (s:=s) l k rfl rfl;simpa[Eu]using this
  |str x=>unfold iP at h1 h2;subst h1 h2;have:=iJ (A:=A) (s:=s) l k rfl rfl;simpa[Eu]using this
  |lst ds=>unfold Dt.dep at S;omega
  |tup ds=>unfold Dt.dep at S;omega
 |succ n ih=>
  intro d A v u vv uu S hA h1 h2 l k;cases d with
  |non=>unfold iP at h1 h2;subst h1 h2;have:=iJ (A:=A) (s:=s) l k rfl rfl;exact this
  |bl b=>unfold iP at h1 h2;subst h1 h2;have:=iJ (A:=A) (s:=s) l k rfl rfl;simpa[Eu]using this
  |int i=>unfold iP at h1 h2;subst h1 h2;have:=iJ (A:=A) (s:=s) l k rfl rfl;simpa[Eu]using this
  |str x=>unfold iP at h1 h2;subst h1 h2;have:=iJ (A:=A) (s:=s) l k rfl rfl;simpa[Eu]using this
  |lst ds=>
   unfold iP at h1 h2;obtain⟨a,J,rfl,ha,o⟩:=h1;obtain⟨b,D,rfl,hb,m⟩:=h2;cases l;cases k
   by_cases p:a=b
   ·subst p;exact SeqAt.EqAt.same _
   ·unfold Dt.dep at S
    obtain⟨g,O,pa,_⟩:=I.list ha;obtain⟨c,M,Z,_⟩:=I.list hb;have l1:=O.length;have l2:=M.length;have l3:=o.length;have l4:=m.length
    have a0:g.toArray.size=c.toArray.size:=by simp;omega
    have q:=SeqAt.RcAt.lists (A:=A) (s:=s) (e:=λ_=>true) pa.isList Z.isList a0 ⋯ λj g1 g2=>by
     have C:j<g.length:=by simpa using g1
     have B:j<c.length:=by simpa using g2
     have L:J[j]?=some J[j]:=KL ⋯;have G:D[j]?=some D[j]:=KL ⋯;obtain⟨d,Y,z⟩:=o.get L;obtain⟨d',U,y⟩:=m.get G;rw[Y]at U;cases U
     obtain⟨w1,T,w⟩:=O.get L;obtain⟨w2,f2,r⟩:=M.get G;rw[KL C]at T;rw[KL B]at f2;cases T;cases f2
     have R:=gR Y;simp only[LB];exact ih d A.in1 ⋯ (by show A.units+1+n<cLine;omega) z y w r
    rw[fJ]at q;exact SeqAt.EqAt.of_refs p q
  |tup ds=>
   unfold iP at h1 h2;obtain⟨a,J,rfl,ha,o⟩:=h1;obtain⟨b,D,rfl,hb,m⟩:=h2;cases l;cases k
   by_cases p:a=b
   ·subst p;exact SeqAt.EqAt.same _
   ·unfold Dt.dep at S
    obtain⟨g,O,pa,_⟩:=I.tuple ha;obtain⟨c,M,Z,_⟩:=I.tuple hb;have l1:=O.length;have l2:=M.length;have l3:=o.length;have l4:=m.length
    have q:=SeqAt.RcAt.tuples (A:=A) (s:=s) (e:=λ_=>true) (show s.heap.IsTuple a g.toArray from pa) (show s.heap.IsTuple b c.toArray from Z) ⋯ λj g1 g2=>by
     have C:j<g.length:=by simpa using g1
     have B:j<c.length:=by simpa using g2
     have L:J[j]?=some J[j]:=KL ⋯;have G:D[j]?=some D[j]:=KL ⋯;obtain⟨d,Y,z⟩:=o.get L;obtain⟨d',U,y⟩:=m.get G;rw[Y]at U;cases U
     obtain⟨w1,T,w⟩:=O.get L;obtain⟨w2,f2,r⟩:=M.get G;rw[KL C]at T;rw[KL B]at f2;cases T;cases f2
     have R:=gR Y;simp only[LB];exact ih d A.in1 ⋯ (by show A.units+1+n<cLine;omega) z y w r
    have e0:((List.range (min g.toArray.size c.toArray.size)).all (λ_=>true)&&g.toArray.size==c.toArray.size)=true:=by
     rw[fJ,Bool.true_and];simp;omega
    rw[e0]at q;exact SeqAt.EqAt.of_refs p q
def DB(K:LM)(neg:Bool):R2:=λx y H Q=>
 (∃ds,Dt.deps ds<=40/\((iP K H (.lst ds) x/\iP K H (.lst ds) y)\/(iP K H (.tup ds) x/\iP K H (.tup ds) y))/\Q (.bl (!neg)) H) \/
 (∃a b xs ys,x=.ref a/\y=.ref b/\aQ K H a xs/\aQ K H b ys/\xs.length≠ys.length/\Q (.bl neg) H)
theorem EO(hu:X.A.units+64<cLine):bC X (compareOp .Eq) (DB X.K false):=by
 intro w s σ H x y v u Q I rx ry h;rcases h with⟨ds,hd,h,q⟩ | ⟨a,b,p,o,rfl,rfl,D,C,hne,q⟩
 ·have fin:EP X w σ Q (.bool true) s:=⟨.bl true,H,I,rfl,q⟩
  have r:∀{p o:List V} {g c:LQ},dB X.K H ds p->dB X.K H ds o->bh p g->bh o c->∀j (h1:j<g.toArray.size) (h2:j<c.toArray.size),SeqAt.EqAt X.A.in1 s g.toArray[j] c.toArray[j] true:=fun{p o g c} l k n m j g1 g2=>by
   have R:=n.length;have O:=m.length;have l3:=l.length;have Z:=k.length
   have T:j<g.length:=by simpa using g1
   have S:j<c.length:=by simpa using g2
   have Y:p[j]?=some p[j]:=KL ⋯;have U:o[j]?=some o[j]:=KL ⋯;obtain⟨d,e1,M⟩:=l.get Y;obtain⟨d',e2,L⟩:=k.get U;rw[e1]at e2;cases e2
   obtain⟨w1,f1,J⟩:=n.get Y;obtain⟨w2,f2,G⟩:=m.get U;rw[KL T]at f1;rw[KL S]at f2;cases f1;cases f2
   have hdep:=gR e1;simp only[LB];exact xj I 40 d X.A.in1 ⋯ (by show X.A.units+1+40<cLine;omega) M L J G
  rcases h with⟨h1,h2⟩ | ⟨h1,h2⟩
  ·unfold iP at h1 h2
   obtain⟨a,p,rfl,D,l⟩:=h1;obtain⟨b,o,rfl,C,k⟩:=h2;cases rx;cases ry
   obtain⟨g,n,B,_⟩:=I.list D;obtain⟨c,m,z,_⟩:=I.list C;have R:=n.length;have O:=m.length;have l3:=l.length;have Z:=k.length
   have q:=SeqAt.RcAt.lists (A:=X.A) (s:=s) (e:=λ_=>true) B.isList z.isList (by simp;omega) ⋯ (r l k n m);rw[fJ]at q;exact q _ _ _ _ fin
  ·unfold iP at h1 h2
   obtain⟨a,p,rfl,D,l⟩:=h1;obtain⟨b,o,rfl,C,k⟩:=h2;cases rx;cases ry
   obtain⟨g,n,B,_⟩:=I.tuple D;obtain⟨c,m,z,_⟩:=I.tuple C;have R:=n.length;have O:=m.length;have l3:=l.length;have Z:=k.length
   have q:=SeqAt.RcAt.tuples (A:=X.A) (s:=s) (e:=λ_=>true) (show s.heap.IsTuple a g.toArray from B) (show s.heap.IsTuple b c.toArray from z) ⋯ (r l k n m);have e0:((List.range (min g.toArray.size c.toArray.size)).all (λ_=>true)&&g.toArray.size==c.toArray.size)=true:=by
    rw[fJ,Bool.true_and];simp;omega
   rw[e0]at q;exact q _ _ _ _ fin
 ·cases rx;cases ry
  obtain⟨g,n,B,_⟩:=I.list D;obtain⟨c,m,z,_⟩:=I.list C;have R:=n.length;have O:=m.length
  exact SeqAt.RcAt.lists_lengths B.isList z.isList (by simp;omega) ⋯ _ _ _ _ ⟨.bl false,H,I,rfl,q⟩
theorem p_(hu:X.A.units+64<cLine):bC X (compareOp .NotEq) (DB X.K true):=by
 intro w s σ H x y v u Q I rx ry h;rcases h with⟨ds,hd,h,q⟩ | ⟨a,b,p,o,rfl,rfl,D,C,hne,q⟩
 ·have fin:EP X w σ Q (.bool false) s:=⟨.bl false,H,I,rfl,q⟩
  have r:∀{p o:List V} {g c:LQ},dB X.K H ds p->dB X.K H ds o->bh p g->bh o c->∀j (h1:j<g.toArray.size) (h2:j<c.toArray.size),SeqAt.EqAt X.A.in1 s g.toArray[j] c.toArray[j] true:=fun{p o g c} l k n m j g1 g2=>by
   have R:=n.length;have O:=m.length;have l3:=l.length;have Z:=k.length
   have T:j<g.length:=by simpa using g1
   have S:j<c.length:=by simpa using g2
   have Y:p[j]?=some p[j]:=KL ⋯;have U:o[j]?=some o[j]:=KL ⋯;obtain⟨d,e1,M⟩:=l.get Y;obtain⟨d',e2,L⟩:=k.get U;rw[e1]at e2;cases e2
   obtain⟨w1,f1,J⟩:=n.get Y;obtain⟨w2,f2,G⟩:=m.get U;rw[KL T]at f1;rw[KL S]at f2;cases f1;cases f2
   have hdep:=gR e1;simp only[LB];exact xj I 40 d X.A.in1 ⋯ (by show X.A.units+1+40<cLine;omega) M L J G
  rcases h with⟨h1,h2⟩ | ⟨h1,h2⟩
  ·unfold iP at h1 h2
   obtain⟨a,p,rfl,D,l⟩:=h1;obtain⟨b,o,rfl,C,k⟩:=h2;cases rx;cases ry
   obtain⟨g,n,B,_⟩:=I.list D;obtain⟨c,m,z,_⟩:=I.list C;have R:=n.length;have O:=m.length;have l3:=l.length;have Z:=k.length
   have q:=SeqAt.RcNeAt.lists (A:=X.A) (s:=s) (e:=λ_=>true) B.isList z.isList (by simp;omega) ⋯ (r l k n m);rw[fJ]at q;exact q _ _ _ _ fin
  ·unfold iP at h1 h2
   obtain⟨a,p,rfl,D,l⟩:=h1;obtain⟨b,o,rfl,C,k⟩:=h2;cases rx;cases ry
   obtain⟨g,n,B,_⟩:=I.tuple D;obtain⟨c,m,z,_⟩:=I.tuple C;have R:=n.length;have O:=m.length;have l3:=l.length;have Z:=k.length
   have q:=SeqAt.RcNeAt.tuples (A:=X.A) (s:=s) (e:=λ_=>true) (show s.heap.IsTuple a g.toArray from B) (show s.heap.IsTuple b c.toArray from z) ⋯ (r l k n m);have e0:((List.range (min g.toArray.size c.toArray.size)).all (λ_=>true)&&g.toArray.size==c.toArray.size)=true:=by
    rw[fJ,Bool.true_and];simp;omega
   rw[e0]at q;exact q _ _ _ _ fin
 ·cases rx;cases ry
  obtain⟨g,n,B,_⟩:=I.list D;obtain⟨c,m,z,_⟩:=I.list C;have R:=n.length;have O:=m.length
  exact SeqAt.RcNeAt.lists_lengths B.isList z.isList (by simp;omega) ⋯ _ _ _ _ ⟨.bl true,H,I,rfl,q⟩
theorem DG{K:LM}{ys:LW}:dB K H (ys.map Dt.str) (ys.map V.str):=by
 induction ys with
 |nil=>unfold dB;rfl
 |cons y ys ih=>
  show dB K H (Dt.str y::ys.map Dt.str) (V.str y::ys.map V.str);unfold dB;exact⟨_,_,rfl,by unfold iP;rfl,ih⟩
theorem rY(ys:LW):Dt.deps (ys.map Dt.str)=0:=by
 induction ys with
 |nil=>rfl
 |cons y ys ih=>show max (Dt.dep (.str y)) (Dt.deps (ys.map Dt.str))=0;rw[ih];rfl
end
end L2
namespace aL
abbrev FX:=List Nat
abbrev aL:=List FX
def rect(p:aL)(r c:Nat):Prop:=p.length=r/\∀x∈p,x.length=c
def Af(p:aL)(i j:Nat):Nat:=(p.getD i []).getD j 0
def mirror(p:aL):aL:=p.map List.reverse
def tV(p:aL)(i:Nat):FX:=p.reverse.map λx=>x.getD i 0
def bd(p:aL):aL:=(List.range (p.headD []).length).map (tV p)
def aS:Nat->aL->aL
 |0,p=>p
 |n+1,p=>aS n (bd p)
def turned(p:aL)(t:Nat):aL:=aS (t%4) (if 4<=t then mirror p else p)
theorem A_{i:Nat}(h:rect p r c)(hi:i<r):(p.getD i []).length=c:=by
 have a:i<p.length:=by rw[h.1];exact hi
 rw[q0A,KL a];exact h.2 _ (KY a)
theorem aO(h:rect p r c)(hr:0<r):(p.headD []).length=c:=by
 have:=A_ h hr;cases p with
 |nil=>have:=h.1;simp at this;omega
 |cons x p=>simpa using this
theorem bZ(h:rect p r c):rect (mirror p) r c:=by
 refine⟨by simp[mirror,h.1],λx b=>?_⟩;obtain⟨y,a,rfl⟩:=Lx.mp b;rw[K7];exact h.2 y a
theorem bH(h:rect p r c)(hr:0<r):rect (bd p) c r:=by
 refine⟨by unfold bd;rw[KO,q0J,aO h hr],λx a=>?_⟩;obtain⟨i,_,rfl⟩:=Lx.mp a;simp[tV,h.1]
theorem fF{i j:Nat}(h:rect p r c)(hi:i<r)(hj:j<c):Af (mirror p) i j=Af p i (c-1-j):=by
 have a:i<p.length:=by rw[h.1];exact hi
 have b:(p[i]).length=c:=h.2 _ (KY a);unfold Af mirror;rw[q0A (l:=List.map _ _),KQ,KL a,q0A (l:=p),KL a];simp only[Option.map_some,q0L];rw[q0A,List.getElem?_reverse (by rw[b];exact hj),b,q0A]
theorem ce{i j:Nat}(h:rect p r c)(hr:0<r)(hi:i<c)(hj:j<r):Af (bd p) i j=Af p (r-1-j) i:=by
 unfold Af bd;rw[aO h hr,q0A (l:=List.map _ _),KQ,List.getElem?_range hi];simp only[Option.map_some,q0L];unfold tV;rw[q0A,KQ,List.getElem?_reverse (by rw[h.1];exact hj),h.1];have a:r-1-j<p.length:=by rw[h.1];omega
 rw[KL a,q0A (l:=p),KL a]
 rfl
theorem gv(hp:rect p r c)(hq:rect q r c)(h:∀i j,i<r->j<c->Af p i j=Af q i j):p=q:=by
 refine List.ext_getElem (by rw[hp.1,hq.1]) λi h1 h2=>?_;have a:=hp.2 _ (KY h1);have g:=hq.2 _ (KY h2);refine List.ext_getElem (by rw[a,g]) λj b k=>?_;have e:=h i j (by rw[<- hp.1];exact h1) (by rw[<- a];exact b);unfold Af at e
 simpa[q0A,KL,h1,h2,b,k]using e
theorem DP(p:aL):mirror (mirror p)=p:=by simp[mirror,K4,Function.comp_def]
theorem BB(h:rect p r c)(hr:0<r)(hc:0<c):bd (bd (bd (bd p)))=p:=by
 have h1:=bH h hr;have h2:=bH h1 hc;have b:=bH h2 hr;have g:=bH b hc;refine gv g h λi j a e=>?_;rw[ce b hc a e,ce h2 hr ⋯ a,ce h1 hc ⋯ ⋯,ce h hr ⋯ ⋯]
 congr 1<;>omega
theorem ou(h:rect p r c)(hr:0<r)(hc:0<c):mirror (bd p)=bd (bd (bd (mirror p))):=by
 have m:=bZ h;have h1:=bH m hr;have h2:=bH h1 hc;have e:=bH h2 hr;have q:=bH h hr;refine gv (bZ q) e λi j a b=>?_;rw[fF q a b,ce h hr a ⋯,ce h2 hr a b,ce h1 hc ⋯ a,ce m hr ⋯ ⋯,fF h ⋯ ⋯]
 congr 1<;>omega
theorem cK:∀(n:Nat) {p:aL} {r c:Nat},rect p r c->0<r->0<c->rect (aS n p) (if n%2=0 then r else c) (if n%2=0 then c else r)
 |0,_,_,_,h,_,_=>h
 |n+1,p,r,c,h,hr,hc=>by
  have:=cK n (bH h hr) hc hr;show rect (aS n (bd p)) _ _
  by_cases e:n%2=0
  ·rw[q07 e,q07 e]at this
   rw[q06 ⋯,q06 ⋯];exact this
  ·rw[q06 e,q06 e]at this
   rw[q07 ⋯,q07 ⋯];exact this
theorem cC(h:rect p r c)(hr:0<r)(hc:0<c)(t:Nat):rect (turned p t) (if t%2=0 then r else c) (if t%2=0 then c else r):=by
 unfold turned;have e:t%4%2=t%2:=by omega
 rw[<- e]
 split
 ·exact cK _ (bZ h) hr hc
 ·exact cK _ h hr hc
theorem cv(a b:Nat)(p:aL):aS a (aS b p)=aS (b+a) p:=by
 induction b generalizing p with
 |zero=>rw[Nat.zero_add];rfl
 |succ b ih=>show aS a (aS b (bd p))=_;rw[ih,Nat.add_right_comm];rfl
theorem dX(h:rect p r c)(hr:0<r)(hc:0<c)(n:Nat):aS n p=aS (n%4) p:=by
 induction n using Nat.strongRecOn generalizing p r c with
 |ind n ih=>
  by_cases a:n<4
  ·rw[Nat.mod_eq_of_lt a]
  ·obtain⟨m,rfl⟩:∃m,n=m+4:=⟨n-4,⋯⟩
   have e:aS (m+4) p=aS m (bd (bd (bd (bd p)))):=rfl;rw[e,BB h hr hc,ih m ⋯ h hr hc]
   congr 1
   omega
theorem iQ(h:rect p r c)(hr:0<r)(hc:0<c):∀n,mirror (aS n p)=aS (3*n) (mirror p):=by
 intro n
 induction n generalizing p r c with
 |zero=>rfl
 |succ n ih=>
  show mirror (aS n (bd p))=_;rw[ih (bH h hr) hc hr,ou h hr hc];have e:bd (bd (bd (mirror p)))=aS 3 (mirror p):=rfl;rw[e,cv]
  congr 1
  omega
def after(t u:Nat):Nat:=if u<4 then t/4*4+(t+u)%4 else(1-t/4)*4+(u+8-t)%4
def di(t:Nat):Nat:=if t<4 then(4-t)%4 else t
theorem bK(h:rect p r c)(hr:0<r)(hc:0<c){t u:Nat}(ht:t<8)(hu:u<8):turned (turned p t) u=turned p (after t u):=by
 have m:=bZ h;unfold turned after
 by_cases h1:4<=t<;>by_cases h2:4<=u
 ·rw[q07 h1,q07 h2,q06 ⋯,q06 ⋯]
  rw[iQ m hr hc,DP,cv,dX h hr hc]
  congr 1;omega
 ·rw[q07 h1,q06 h2,q07 ⋯,q07 ⋯]
  rw[cv,dX m hr hc]
  congr 1;omega
 ·rw[q06 h1,q07 h2,q06 ⋯,q07 ⋯]
  rw[iQ h hr hc,cv,dX m hr hc]
  congr 1;omega
 ·rw[q06 h1,q06 h2,q07 ⋯,q06 ⋯]
  rw[cv,dX h hr hc]
  congr 1;omega
theorem eX(p:aL):turned p 0=p:=rfl
theorem gZ{t u:Nat}(ht:t<8)(hu:u<8):after t u<8:=by unfold after;split<;>omega
theorem eu{t:Nat}(ht:t<8):di t<8:=by unfold di;split<;>omega
theorem xx{t:Nat}(ht:t<8):after t (di t)=0:=by
 unfold after di
 by_cases h:t<4
 ·rw[q07 h,q07 ⋯];omega
 ·rw[q06 h,q06 ⋯];omega
theorem kW{t:Nat}(ht:t<8):after (di t) t=0:=by
 unfold after di
 by_cases h:t<4
 ·rw[q07 h,q07 ⋯];omega
 ·rw[q06 h,q06 ⋯];omega
theorem jh(h:rect p r c)(hr:0<r)(hc:0<c){t:Nat}(ht:t<8):turned (turned p t) (di t)=p:=by
 rw[bK h hr hc ht (eu ht),xx ht];rfl
end aL
namespace QL
open PySem L2 aL
def tx(r:LO):Str:=⟨r.toArray⟩
def ao(p:aL):List V:=p.map λr=>V.str (tx r)
theorem ax(r:LO):(tx r).length=r.length:=by show r.toArray.size=r.length;simp
theorem dh(r:LO):(tx r).cps.toList=r:=by show r.toArray.toList=r;simp
theorem ak(p:aL):(ao p).length=p.length:=by unfold ao;simp
theorem eB(p:aL):ao p=(p.map tx).map V.str:=by unfold ao;rw[K4];rfl
theorem bz{p:aL}{i:Nat}(h:i<p.length):(ao p)[i]?=some (V.str (tx p[i])):=by unfold ao;rw[KQ,KL h];rfl
theorem cU(p:aL)(r:LO):ao (p++[r])=ao p++[V.str (tx r)]:=by unfold ao;simp
theorem join_nil:∀(ys:List (List Nat)),Txt.join (Str.ofString "") (ys.map tx)=tx ys.flatten
 | []=>rfl
 |y::ys=>by
  have key:∀(zs:List (List Nat)) (a:LO),(zs.map tx).foldl (λacc (p:Str)=>acc++(Str.ofString "").cps++p.cps) a.toArray=(a++zs.flatten).toArray:=by
   intro zs
   induction zs with
   |nil=>intro a;simp
   |cons z zs ih=>
    intro a;rw[Lh,List.foldl_cons];have e:a.toArray++(Str.ofString "").cps++(tx z).cps=(a++z).toArray:=by
     have b:(Str.ofString "").cps=#[]:=rfl;rw[b];show a.toArray ++ #[]++z.toArray=_;simp
    rw[e,ih];simp
  show(⟨(ys.map tx).foldl (λacc (p:Str)=>acc++(Str.ofString "").cps++p.cps) (tx y).cps⟩:Str)=_;show(⟨(ys.map tx).foldl (λacc (p:Str)=>acc++(Str.ofString "").cps++p.cps) y.toArray⟩:Str)=_;rw[key]
  rfl
theorem jO(r:LO):Txt.join (Str.ofString "") (r.map λc=>(⟨#[c]⟩:Str))=tx r:=by
 have e:(r.map λc=>(⟨#[c]⟩:Str))=(r.map λc=>[c]).map tx:=by rw[K4];rfl
 rw[e,join_nil]
 congr 1
 clear e
 induction r with
 |nil=>rfl
 |cons c r ih=>simp[ih]
def eZ(p:aL):Prop:=p.length<=64/\∀r∈p,r.length<=64
theorem eZ.of(h:rect p r c)(hr:r<=64)(hc:c<=64):eZ p:=⟨by rw[h.1];exact hr,λx hx=>by rw[h.2 x hx];exact hc⟩
theorem bc{n:Nat}(h:n<=1000000):n<sizeLine:=by have:=q0W;omega
theorem au{n:Nat}(h:n<=1000000):n<=sizeLine:=by have:=q0W;omega
theorem aj{H:Hp}(h:H l=none):az H (aD H l o):=λb u e=>by rw[ar (aI e h)];exact e
theorem bE{H0:Hp}(s:az H0 H)(h:H0 l=none):az H0 (aD H l o):=λb u e=>by rw[ar (aI e h)];exact s b u e
theorem e_{i:Nat}(h:rect p r c)(hi:i<r):∃hl:i<p.length,(p[i]).length=c:=⟨by rw[h.1];exact hi,h.2 _ (KY _)⟩
def fO(H:Hp)(p:aL)(Q:VK):Prop:=∀(l:Addr) (H':Hp),H l=none->H' l=some (.lst (ao p))->az H H'->Q (.ref l) H'
def dD(ns:List Int)(k:Nat):Int:=ns.getD k 0/2147483647*2147483647+(((ns.getD k 0%2147483647+7919*(k:Int)+1)*48271%2147483647)*69621+(k:Int))%2147483647
theorem uJ(K:LM):PySem.W.kitOne K (.type "int") (.type "bool")=some false:=by kernel_rfl
end QL
namespace L2
open PySem PySem.Spec PyProof.Rows
section
variable {X:Cx}
theorem aZ:g7 X (.builtin "len") (λxs H Q=>∃p ys,xs=[.ref p]/\aQ X.K H p ys/\Q (.int ys.length) H):=λpins s σ H xs us Q I r ⟨p,ys,e,h,q⟩=>lE pins s σ H xs us Q I r ⟨p,ys,e,.inl h,q⟩
theorem rG:g7 X (.builtin "len") (λxs H Q=>∃p ys,xs=[.ref p]/\cR X.K H p ys/\Q (.int ys.length) H):=λpins s σ H xs us Q I r ⟨p,ys,e,h,q⟩=>lE pins s σ H xs us Q I r ⟨p,ys,e,.inr h,q⟩
theorem v5{K:LM}{g:TG}{ti:TT}{te:TE}{σ:St}{H:Hp}{Q:List V->Hp->Prop}{xs:List V}(Pv:Nat->List V->St->Hp->Prop)(h0:Pv 0 [] σ H)(hz:∀i acc σ H,Pv i acc σ H->acc.length<sizeLine)(hi:∀i acc σ H,Pv i acc σ H->i<=xs.length)
  (hl:∀i acc σ H,Pv i acc σ H->aQ K H a xs)
  (hs:∀i x acc σ H,xs.reverse[i]?=some x->Pv i acc σ H->g x σ H λσ2 H3=>ti σ2 H3 λb H4=>if b=true then te σ2 H4 λv H5=>Pv (i+1) (acc++[v]) σ2 H5 else Pv (i+1) acc σ2 H4)
  (he:∀acc σ H,Pv xs.length acc σ H->Q acc H):gl (GC K a xs.length) g ti te σ H Q:=by
 have c:∀{i:Nat} {x:V},i<xs.length->xs[xs.length-1-i]?=some x->xs.reverse[i]?=some x:=fun{i x} hi e=>by rw[List.getElem?_reverse hi];exact e
 exact jP (J:=GC K a xs.length) (g:=g) (ti:=ti) (te:=te) (Q:=Q) (n:=xs.length) Pv h0 hz hi (λacc σ H w=>rfl)
  (λi acc σ H hlt w=>⟨xs,xs[xs.length-1-i]'⋯,hl _ _ _ _ w,hlt,KL ⋯⟩) (λi x acc σ H H2 hlt w y=>by obtain⟨rfl,j⟩:=y;exact hs i x acc σ H2 (c hlt (j xs (hl _ _ _ _ w))) w) he
theorem DN(i j:Int):(ur (.int i) (.int j)=true)=True:=eq_true rfl
theorem C9(i j:Str):(ur (.str i) (.str j)=true)=True:=eq_true rfl
theorem g8{ta:TE}(ha:PE X a ta)(he:∀whole,isTrue a X.env whole=(do let v <- whole;standAt a.pos;holding [v] (truthy v))):PT X a (vK ta):=by
 intro b s σ H Q I h;rw[he];refine q04 (ci (ha b s σ H _ I h) λv s1 ⟨x,H1,g,c,k,e,q⟩=>?_);subst e;cases c;exact q04 (wpAny_standAt (q0Y (wpAny_truthy_bool ⟨H1,g,q⟩)))
def Aj(J:It)(g:TG)(tb:TS)(D:gO)(σ:St)(H:Hp):Prop:=∃W:Nat->Nat->St->Hp->Prop,(∃m,W 0 m σ H)/\∀i m σ H,W i m σ H ->
 (J.stop i H/\D.nx σ H)\/(J.go i H/\∃N:St->Hp->Prop,(∀σ' H',N σ' H'->∃m',m'<m/\W (i+1) m' σ' H')/\∀x H',J.yld i H x H'->g x σ H' λσ2 H2=>tb {D with nx:=N,ct:=N,bk:=D.nx} σ2 H2)
def Ce(wi:TI)(g:TG)(tb:TS):TS:=λD σ H=>wi σ H λJ H1=>Aj J g tb D σ H1
theorem bF{tg iter:Expr}{body:List Stmt}{wi:TI}{pos:Pos}(hp:PassesOwn d⁻¹ X.A X.env X.xe)(hc:X.calm=true)(hi:PI X tg iter wi)(hg:PG X tg g)(hb:wg X body tb)
  (hs:autoParam (∀x,foldedSetIterable iter X.env x=pure x) zz4._auto_1):PS X (.For tg iter body [] pos) (Ce wi g tb):=E2 hp hc hi hg hb hs
section
variable {K:LM}{g:TG}{tb:TS}{D:gO}{σ:St}{H:Hp}
theorem b5{xs:List V}(Pv:Nat->St->Hp->Prop)(h0:Pv 0 σ H)(hl:∀i σ H,i<=xs.length->Pv i σ H->aQ K H a xs)
  (hs:∀i x σ H,xs[i]?=some x->Pv i σ H->g x σ H λσ2 H2=>tb {D with nx:=Pv (i+1),ct:=Pv (i+1),bk:=D.nx} σ2 H2) (hd:∀σ H,Pv xs.length σ H->D.nx σ H):Aj (AJ K a) g tb D σ H:=AC Pv h0 hl hs hd
theorem cL{lo:Int}{n:Nat}(Pv:Nat->St->Hp->Prop)(h0:Pv 0 σ H)
  (hs:∀i σ H,i<n->Pv i σ H->g (.int (lo+i)) σ H λσ2 H2=>tb {D with nx:=Pv (i+1),ct:=Pv (i+1),bk:=D.nx} σ2 H2) (hd:∀σ H,Pv n σ H->D.nx σ H):Aj (zq lo n) g tb D σ H:=zS Pv h0 hs hd
end
end
theorem ba:bootBuiltins "len"=some (.builtin "len"):=by decide +kernel
theorem eU:bootBuiltins "list"=some (.type "list"):=by decide +kernel
theorem Bh:bootBuiltins "tuple"=some (.type "tuple"):=by decide +kernel
theorem Fo:bootBuiltins "int"=some (.type "int"):=by decide +kernel
theorem DI:bootBuiltins "bool"=some (.type "bool"):=by decide +kernel
theorem c4:bootBuiltins "isinstance"=some (.builtin "isinstance"):=by decide +kernel
theorem EX:bootBuiltins "all"=some (.builtin "all"):=by decide +kernel
end L2
namespace L2
open PySem PySem.Spec PyProof.Rows
section
variable {X:Cx}{a b c d:Expr}{ta tb tc td:TE}{pos:Pos}
def FA(K:LM):List V->Hp->VK->Prop:=λxs H Q=>∃(p:Addr) (bs:List Bool),xs=[.ref p]/\aQ K H p (bs.map V.bl)/\Q (.bl (bs.all id)) H
theorem xZ:∀{bs:List Bool} {us:LQ} {i:Nat} {u:Value},bh (bs.map V.bl) us->us[i]?=some u->∃k,bs[i]?=some k/\u=.bool k
 | [],_,_,_,.nil,e=>by simp at e
 |k::bs,_,0,u,.cons r _,e=>by simp at e;subst e;exact⟨k,rfl,r⟩
 |k::bs,_,i+1,u,.cons _ t,e=>by
  obtain⟨k',h1,h2⟩:=xZ (i:=i) t (by simpa using e);exact⟨k',by simpa using h1,h2⟩
theorem yO(bs:List Bool):((List.range bs.length).all λi=>(bs[i]?).getD true)=bs.all id:=by
 rw[Bool.eq_iff_iff,Lz,Lz]
 constructor
 ·intro h x c
  obtain⟨i,b,e⟩:=List.getElem_of_mem c;have q:=h i (List.mem_range.mpr b);rw[KL b,q0L,e]at q;exact q
 ·intro h i b
  have a:=List.mem_range.mp b;rw[KL a,q0L];exact h _ (KY a)
theorem A6(hc:X.calm=true):g7 X (.builtin "all") (FA X.K):=by
 intro pins s σ H xs us Q I r h;obtain⟨p,bs,rfl,y,q⟩:=h;obtain⟨u,rfl,x⟩:=r.one;cases x;obtain⟨a,n,g,_⟩:=I.list y;have j:p<s.heap.objs.size:=by obtain⟨_,e,_⟩:=g.isList;exact Le e
 have c:a.length=bs.length:=by rw[<- n.length,KO]
 refine call_all_walk (wpAny_pyIter_list g.isList ?_);refine⟨s.heap.objs.size,[s.heap.objs.size,p],[s.heap.objs.size],a.toArray.size,_,_,λi=>(bs[i]?).getD true,rfl,Walks.list (A:=X.A.in1) (I.ok.hd hc) _ p (K9 j) a.toArray,
  ⟨⟨_,KU _ rfl,rfl,rfl⟩,g.isList.push _⟩,λi v s' Q' E' C l=>?_,λh' w B=>?_⟩
 ·obtain⟨k,e,rfl⟩:=xZ (i:=i) n (by simpa using C)
  dsimp only at l;rw[e,q0L]at l;exact wpAny_truthy_bool l
 ·have e:((List.range a.toArray.size).all λi=>(bs[i]?).getD true)=bs.all id:=by rw[KW,c];exact yO bs
  rw[e];exact⟨.bl _,H,I.kept (t':=w) λb o m=>B b o (λz=>by rw[KP.mp z]at m;exact Lk _ (Le m)) (KN _ m),rfl,q⟩
end
end L2
namespace QL
open PySem L2 aL PySem.Builtin PySem.Builtin.Str
theorem wo(row:LO)(i k:Nat)(h:i+k<=row.length):((List.range k).map λm=>i+m).filterMap (λj=>row[j]?)=(row.drop i).take k:=by
 rw[List.filterMap_map]
 induction k with
 |zero=>simp
 |succ k ih=>
  rw[q0M,List.filterMap_append,ih ⋯,q0E,List.getElem?_drop];have e:i+k<row.length:=by omega
  simp[KL e]
def Cu(n:Nat)(d:Int):Option Int->Int
 |none=>d
 |some i=>max 0 (min (if i<0 then i+(n:Int) else i) (n:Int))
theorem vD(n d:Nat)(v:Option Int):Cu n (d:Int) v=((HT.sIx n d v:Nat):Int):=by
 cases v with
 |none=>rfl
 |some v=>
  show max 0 (min (if v<0 then v+(n:Int) else v) (n:Int))=(((if v<0 then(v+(n:Int)).toNat else min v.toNat n:Nat)):Int)
  by_cases a:v<0
  ·rw[q07 a,q07 a,Int.max_def,Int.min_def]
   split<;>split at * <;> omega
  ·rw[q06 a,q06 a,Int.max_def,Int.min_def]
   split<;>split at * <;> omega
theorem wx(lo hi:Option Int)(n:Nat):strSliceIndices lo hi 1 n=sliceRange (Cu n ((0:Nat):Int) lo) (Cu n (n:Int) hi) 1:=by cases lo<;>cases hi<;>rfl
theorem gS(row:LO)(lo hi:Option Int):Txt.slice (tx row) lo hi=tx ((row.drop (HT.sIx row.length 0 lo)).take (HT.sIx row.length row.length hi-HT.sIx row.length 0 lo)):=by
 have hl:=HT.sIx_le row.length 0 (Lc _) lo;have hh:=HT.sIx_le row.length row.length (Lb _) hi;have key:strSliceIndices lo hi 1 (tx row).length=(List.range (HT.sIx row.length row.length hi-HT.sIx row.length 0 lo)).map λm=>HT.sIx row.length 0 lo+m:=by
  rw[ax,wx,vD,vD];generalize HT.sIx row.length 0 lo=a;generalize HT.sIx row.length row.length hi=b;unfold sliceRange;have en:(if(1:Int)>0 then(if(a:Int)<(b:Int) then((b:Int)-(a:Int)+1-1)/1 else 0) else(if(a:Int)>(b:Int) then((a:Int)-(b:Int)-1-1)/(-1) else 0)).toNat=b-a:=by
   rw[q07 b⁻¹]
   split<;>omega
  show(List.range (if(1:Int)>0 then(if(a:Int)<(b:Int) then((b:Int)-(a:Int)+1-1)/1 else 0) else(if(a:Int)>(b:Int) then((a:Int)-(b:Int)-1-1)/(-1) else 0)).toNat).map (fun(k:Nat)=>((a:Int)+1*(k:Int)).toNat)=_;rw[en];refine q0K λm _=>?_;omega
 unfold Txt.slice;rw[key];generalize HT.sIx row.length 0 lo=a at hl ⊢;generalize HT.sIx row.length row.length hi=b at hh ⊢
 by_cases hab:a+(b-a)<=row.length
 ·have e:(((List.range (b-a)).map λm=>a+m).filterMap λj=>(tx row).cps[j]?)=(row.drop a).take (b-a):=by
   rw[<- wo row a (b-a) hab]
   congr 1
   funext j
   show row.toArray[j]?=row[j]?;simp
  rw[e]
  split
  ·rename_i hw
   simp at hw;rw[ax]at hw;have ha0:a=0:=by omega
   have hb0:b-a=row.length:=by omega
   rw[ha0,LK];rw[ha0]at hb0;rw[hb0,Lp]
  ·rfl
 ·exact q0Q hab ⋯
end QL
namespace L2
open PySem PySem.Spec PyProof.Rows
section
variable {X:Cx}{K:LM}{tg:Expr}
theorem hV(hK:X.K=K):g7 X (.builtin "isinstance") (CT K):=hK▸c3
end
end L2
namespace PySem
open Sem (wp)
def TrD(cp:Value->Prop)(h base:Heap)(e:Addr)(cls:Value)(od:LZ)(fl:Value):Prop:=
 ∃oe vs T oT ts,h.get? e=some oe/\oe.cls=cls/\oe.dict=od/\oe.data=.fields vs/\vs[1]?=some (.ref T)/\base.get? T=none/\T≠e/\h.get? T=some oT/\oT.data=.fields ts/\ts[3]?=some fl/\∃cx,vs[2]?=some cx/\cp cx
end PySem
namespace L2
open PySem PySem.Spec PyProof.Rows
end L2
namespace L2
open PySem PySem.Spec PyProof.Rows
section
variable {X:Cx}{pins:LN}{σ:St}{H:Hp}{s:LP}
theorem Inv.moved{ch:LR}{h':Heap}{tk:Nat}(I:Inv X pins σ H s)(hf:∀b∈ch,nO X pins H b)(k:∀b o,b∉ch->s.heap.get? b=some o->h'.get? b=some o):Inv X pins σ H {s with heap:=h',toks:=tk}:=by
 have a:∀b o,H b=some o->b∉ch:=λb o e z=>by rw[(hf b z).1]at e;cases e
 refine I.call' (s':={s with heap:=h',toks:=tk}) (ch:=ch) rfl ⟨λb o e _ _ hc=>k b o hc e,λb o e _ _ hc=>⟨o.slots,k b o hc e⟩,λb o e n hc=>n,λb o e hc=>⟨o,k b o hc e⟩,λb xs q=>q,λb o y q=>q,λb qs q=>⟨#[],by rw[q];simp⟩⟩
  (λb o e=>(I.hok b o e).stay (λc u hc q=>k c u (by
   rcases hc with rfl | hc
   ·exact a _ _ e
   ·exact a _ _ hc) q) (λ_ q=>q) λ_ _ q=>q) I.bare λb g=>?_
 obtain⟨f0,p,f2,m,l,j⟩:=hf b g;exact⟨m,p,l,j⟩
theorem Inv.movedT{ch:LR}{h':Heap}{tk:Nat}{T:Addr}{ob:HO}(I:Inv X pins σ H s)(hf:∀b∈ch,nO X pins H b)(k:∀b o,b∉ch->s.heap.get? b=some o->h'.get? b=some o)(hT:s.heap.objs.size<=T)(new:cG X.prog X.w (aD H T ob) h' T ob) :
  Inv X pins σ (aD H T ob) {s with heap:=h',toks:=tk}:=by
 have j:∀b o,H b=some o->b∉ch:=λb o e z=>by rw[(hf b z).1]at e;cases e
 have a:H T=none:=I.hok.fresh hT;have m:∀b o,s.heap.get? b=some o->b≠T:=λb o e z=>by rw[z]at e;exact q0Q (Le e) (Nat.not_lt.mpr hT)
 refine I.call' (s':={s with heap:=h',toks:=tk}) (ch:=ch) rfl ⟨λb o e _ _ hc=>k b o hc e,λb o e _ _ hc=>⟨o.slots,k b o hc e⟩,λb o e n hc=>by rw[ar (m b o e)];exact n,λb o e hc=>⟨o,k b o hc e⟩,λb l q=>by rw[ar (aI q a)];exact q,λb o y q=>by rw[ar (aI q a)];exact q,λb qs q=>⟨#[],by rw[ar (aI q a),q];simp⟩⟩
  (λb o e=>?_) I.bare λb g=>?_
 ·by_cases g:b=T
  ·subst g
   rw[af]at e;cases e;exact new
  ·rw[ar g]at e
   exact(I.hok b o e).stay (λc u hc q=>k c u (by
    rcases hc with rfl | hc
    ·exact j _ _ e
    ·exact j _ _ hc) q) (λc q=>by rw[ar (aI q a)];exact q) λc l q=>by rw[ar (aI q a)];exact q
 ·obtain⟨f0,w,f2,v,r,p⟩:=hf b g
  exact⟨v,w,r,p⟩
end
def Ha(K:LM)(a b:Addr):It:=
 ⟨λi H=>∃xs ys x y,aQ K H a xs/\aQ K H b ys/\xs[i]?=some x/\ys[i]?=some y,λi H v H'=>∃T x y,v=.ref T/\H T=none/\H'=aD H T (.tup [x,y])/\(∀xs,aQ K H a xs->xs[i]?=some x)/\∀ys,aQ K H b ys->ys[i]?=some y,
  λi H=>∃xs ys,aQ K H a xs/\aQ K H b ys/\(xs.length<=i\/ys.length<=i)⟩
theorem By{K:LM}{elts:L3}{tp:Pos}{TI TO:Addr}(D:ZipApart z TI TO i1 i2 l1 l2) :
  vg P w K (.Tuple elts x1 tp) (Ha K l1 l2) [z,TI,TO,i1,i2] z (λi h=>IsZip h z TI TO .none/\IsPair h TI (.ref i1) (.ref i2)/\(∃a b,IsPair h TO a b)/\h.IsListIter i1 l1 i/\h.IsListIter i2 l2 i) where
 mem:=by simp
 obj:=λi h n b L=>by
  obtain⟨p,g,⟨a,c,j⟩,⟨o1,e1,c1,d1⟩,⟨o2,e2,c2,d2⟩⟩:=n;simp only[K5,List.not_mem_nil,or_false]at L;rcases L with rfl | rfl | rfl | rfl | rfl
  ·exact⟨_,p,λv q=>by cases q⟩
  ·exact⟨_,g,λv q=>by cases q⟩
  ·exact⟨_,j,λv q=>by cases q⟩
  ·exact⟨_,e1,λv q=>by rw[d1]at q;cases q⟩
  ·exact⟨_,e2,λv q=>by rw[d2]at q;cases q⟩
 keep:=λi h h' n m=>by
  obtain⟨p,g,⟨a,b,j⟩,h1,h2⟩:=n;exact⟨m z (by simp) _ p,m TI (by simp) _ g,⟨a,b,m TO (by simp) _ j⟩,h1.at λo e=>m i1 (by simp) o e,h2.at λo e=>m i2 (by simp) o e⟩
 item:=by
  intro X hP hw hK l i M s σ H E I hf n hg;subst hP hw hK;obtain⟨xs,ys,x,y,u,r,hx,hy⟩:=hg;obtain⟨R,C,p1,a7⟩:=I.list u;obtain⟨O,B,p2,a0⟩:=I.list r;obtain⟨U,b0,Z⟩:=C.get hx;obtain⟨T,a9,Y⟩:=B.get hy;obtain⟨p,g,⟨a,b,j⟩,h1,h2⟩:=n;refine wpAny_pyNext_zip_item D p g j h1 h2 p1.isList p2.isList (x:=U) (y:=T) (by simpa using b0) (by simpa using a9) λh' a1 a2 a3 a4 a5 a6 m=>?_;refine⟨_,rfl,wpAny_letOwnedTupleGo_zip a1 λS a8 k=>?_⟩;have J:H s.heap.objs.size=none:=I.hok.fresh (Lb _);have lt:∀{c o},s.heap.get? c=some o->s.heap.objs.size≠c:=λe=>Nat.ne_of_gt (Le e);have kk:∀c o,c∉[z,TI,TO,i1,i2]->s.heap.get? c=some o->S.get? c=some o:=λc o l e=>
   k.extBut _ _ (λq=>l (by simp[q])) (m c o (λq=>l (by simp[q])) (λq=>l (by simp[q])) (λq=>l (by simp[q])) (λq=>l (by simp[q])) e)
  have hT:S.get? s.heap.objs.size=some {cls:=.type "tuple",data:=.seq #[U,T]}:=k.extBut _ _ (lt p) a5;refine⟨.ref s.heap.objs.size,aD H s.heap.objs.size (.tup [x,y]),I.movedT (tk:=s.toks) hf kk (Lb _) ⟨show 2<=sizeLine from by decide +kernel,[U,T],.cons Z (.cons Y .nil),_,hT,rfl,_,rfl⟩,rfl,
   ⟨_,x,y,rfl,J,rfl,λzs G=>by rw[I.list_inj G u];exact hx,λzs G=>by rw[I.list_inj G r];exact hy⟩,
   ⟨a8,k.extBut _ _ D.TIz (m _ _ D.TIz D.TITO D.TIi1 D.TIi2 g),⟨_,_,k.extBut _ _ D.TOz a2⟩,a3.extBut k.extBut D.i1z,a4.extBut k.extBut D.i2z⟩,λb L=>?_⟩
  have b1:b≠s.heap.objs.size:=by
   obtain⟨o1,e1,_⟩:=h1;obtain⟨o2,e2,_⟩:=h2;simp only[K5,List.not_mem_nil,or_false]at L;rcases L with rfl | rfl | rfl | rfl | rfl
   ·exact(lt p).symm
   ·exact(lt g).symm
   ·exact(lt j).symm
   ·exact(lt e1).symm
   ·exact(lt e2).symm
  rw[ar b1];exact(hf b L).1
 done:=by
  intro X hP hw hK l i M s σ H E I hf n hg;subst hP hw hK;obtain⟨xs,ys,u,r,hx⟩:=hg;obtain⟨R,C,p1,a7⟩:=I.list u;obtain⟨O,B,p2,a0⟩:=I.list r;obtain⟨p,g,⟨a,b,j⟩,h1,h2⟩:=n;have l1':=C.length;have l2':=B.length;refine wpAny_pyNext_zip_end (I.ok.hd l) D p g j h1 h2 p1.isList p2.isList ?_ λh' m=>⟨rfl,I.moved (tk:=s.toks) hf λc o l e=>m c o (λq=>l (by simp[q])) (λq=>l (by simp[q])) (λq=>l (by simp[q])) (λq=>l (by simp[q])) e⟩;rcases hx with hx | hx
  ·exact .inl (by simp;omega)
  ·exact .inr (by simp;omega)
 self:=λ_ _ _ _ _ n h=>wpAny_pyIter_zip n.1 h
theorem zU(n l1 l2:Nat)(h1:l1<n)(h2:l2<n):ZipApart (n+4) (n+2) (n+3) n (n+1) l1 l2:=by
 constructor<;>exact λe=>q0Q (show(_:Nat)=_ from e) ⋯
section
variable {X:Cx}{elts:L3}{x1:Nat}{tp:Pos}
def FR(K:LM)(ta:TA):TI:=λσ H R=>ta σ H λvs H1=>∃a b xs ys,vs=[.ref a,.ref b]/\aQ K H1 a xs/\aQ K H1 b ys/\R (Ha K a b) H1
theorem ER{a b:Expr}{ta:TA}{p pos:Pos}(hg:Gl X "zip")(hm:X.mg "zip"=none)(ha:PA X [a,b] ta)(hs:autoParam (starEach [a,b] X.env=[(false,eval a X.env),(false,eval b X.env)]) zz0._auto_1)(hs2:autoParam (starEach [b] X.env=[(false,eval b X.env)]) zz0._auto_1):PI X (.Tuple elts x1 tp) (.Call (.Name "zip" p) [a,b] [] pos) (FR X.K ta):=by
 intro g s σ H R I h;refine Call_ (fc I hg hm boot_zip (PyProof.Rows.callWith_type1 (ci (ha pos g s σ H _ I h) λus c ⟨vs,H1,k,L,M⟩=>?_) (by rw[hs,hs2]) (by rw[hs2];rfl)));obtain⟨l1,l2,xs,ys,rfl,o,n,q⟩:=M;obtain⟨u,v,rfl,J,G⟩:=L.two;cases J;cases G;obtain⟨its1,rv1,x,_⟩:=k.list o;obtain⟨its2,rv2,w,_⟩:=k.list n;refine call_zip_2 x.isList w.isList λS r D C B z z6 O=>?_;have m:l1<c.heap.objs.size:=by obtain⟨_,e,_⟩:=x.isList;exact Le e
 have l:l2<c.heap.objs.size:=by obtain⟨_,e,_⟩:=w.isList;exact Le e
 have T:Inv X g σ H1 {c with heap:=S }:=k.kept (t':=c.toks) O;refine wpAny_pyIter_zip r ?_;refine⟨c.heap.objs.size+4,[c.heap.objs.size+4,c.heap.objs.size+2,c.heap.objs.size+3,c.heap.objs.size,c.heap.objs.size+1],_,_,H1,rfl,T,By (l1:=l1) (l2:=l2) ?_,⟨r,D,⟨_,_,C⟩,B,z⟩,λb y=>?_,q⟩
 ·exact zU _ _ _ m l
 ·have j:c.heap.objs.size<=b:=by
   simp only[K5,List.not_mem_nil,or_false]at y;rcases y with e | e | e | e | e<;>(rw[e];first | exact Lb _ | exact Nat.le_add_right _ _)
  exact k.fpOk j (k.hok.fresh j)
end
end L2
namespace PySem.W
open PySem PySem.Spec PySem.Calls PyProof.Rows
section
variable {prog:LV}{w:LY}{A:LX}{E:LL}{s:LP}{K:Frag}{x D:Addr}{ox:Obj}{odo:Option Obj}{name:Str}
end
end PySem.W
namespace L2
open PySem PySem.Spec PyProof.Rows
theorem lF{X:Cx}{K:LM}{es:L3}{t:Ey}{n:Nat}{pos:Pos}(hK:X.K=K)(hc:X.calm=true)(h:F' X es t)
  (hn:autoParam ((assignEach es X.env).length=n) zz0._auto_1) (hst:autoParam ((assignEach es X.env).findIdx? (·.1)=none) zz0._auto_1):PG X (.Tuple es k pos) (AO K n t):=hK▸ik hc h hn hst
section
variable {K:LM}{g:TG}{ti:TT}{te:TE}{σ:St}{H:Hp}{Q:List V->Hp->Prop}
theorem B7{b:Addr}{xs ys:List V}{n:Nat}(hn:n=min xs.length ys.length)(Pv:Nat->List V->St->Hp->Prop)(h0:Pv 0 [] σ H)(hz:∀i acc σ H,Pv i acc σ H->acc.length<sizeLine)(hi:∀i acc σ H,Pv i acc σ H->i<=n)
  (hl:∀i acc σ H,Pv i acc σ H->aQ K H a xs/\aQ K H b ys)
  (hs:∀i x y acc σ H T,xs[i]?=some x->ys[i]?=some y->Pv i acc σ H->H T=none->g (.ref T) σ (aD H T (.tup [x,y])) λσ2 H3=>ti σ2 H3 λb H4=>if b=true then te σ2 H4 λv H5=>Pv (i+1) (acc++[v]) σ2 H5 else Pv (i+1) acc σ2 H4)
  (he:∀acc σ H,Pv n acc σ H->Q acc H):gl (Ha K a b) g ti te σ H Q:=by
 refine jP (J:=Ha K a b) (g:=g) (ti:=ti) (te:=te) (Q:=Q) (n:=n) Pv h0 hz hi (λacc σ H w=>⟨xs,ys,(hl _ _ _ _ w).1,(hl _ _ _ _ w).2,⋯⟩)
  (λi acc σ H hlt w=>⟨xs,ys,xs[i]'⋯,ys[i]'⋯,(hl _ _ _ _ w).1,(hl _ _ _ _ w).2,KL ⋯,KL ⋯⟩) (λi x acc σ H H2 hlt w y=>?_) he
 obtain⟨T,x,y,rfl,j,rfl,e,c⟩:=y;exact hs i x y acc σ H T (e xs (hl _ _ _ _ w).1) (c ys (hl _ _ _ _ w).2) w j
end
end L2
namespace L2
open PySem PySem.Spec PyProof.Rows
def GI(K:LM)(a:Addr):It:=
 ⟨λi H=>∃xs x,aQ K H a xs/\xs[i]?=some x,λi H v H'=>∃T x,v=.ref T/\H T=none/\H'=aD H T (.tup [.int (i:Int),x])/\∀xs,aQ K H a xs->xs[i]?=some x,λi H=>∃xs,aQ K H a xs/\xs.length<=i⟩
theorem zT{K:LM}{elts:L3}{tp:Pos}{e it:Addr}(hei:e≠it) :
  vg P w K (.Tuple elts x1 tp) (GI K l) [e,it] e (λi h=>(∃old,IsEnum h e it i old)/\h.IsListIter it l i) where
 mem:=by simp
 obj:=λi h g b r=>by
  obtain⟨⟨old,a⟩,⟨o1,T,c1,d1⟩⟩:=g;simp only[K5,List.not_mem_nil,or_false]at r;rcases r with rfl | rfl
  ·exact⟨_,a,λv q=>by cases q⟩
  ·exact⟨_,T,λv q=>by rw[d1]at q;cases q⟩
 keep:=λi h U g n=>by
  obtain⟨⟨old,a⟩,h1⟩:=g;exact⟨⟨old,n e (by simp) _ a⟩,h1.at λo e'=>n it (by simp) o e'⟩
 item:=by
  intro X R L S j i y s σ H E I hf g hg;subst R L S;obtain⟨Y,x,B,J⟩:=hg;obtain⟨D,C,p,hz⟩:=I.list B;obtain⟨u,hu,Z⟩:=C.get J;obtain⟨⟨old,a⟩,h1⟩:=g;obtain⟨o1,T,_⟩:=id h1;refine wpAny_pyNext_enum_item a h1 p.isList (x:=u) (by simpa using hu) hei λU a1 a2 a3 a4 n=>?_;refine⟨_,rfl,wpAny_letOwnedTupleGo_enum a1 λh2 O k=>?_⟩;have m:H s.heap.objs.size=none:=I.hok.fresh (Lb _);have lt:∀{c o},s.heap.get? c=some o->s.heap.objs.size≠c:=λe=>Nat.ne_of_gt (Le e);have kk:∀c o,c∉[e,it]->s.heap.get? c=some o->h2.get? c=some o:=λc o j q=>
   k.extBut _ _ (λz=>j (by simp[z])) (n c o (λz=>j (by simp[z])) (λz=>j (by simp[z])) q)
  have hT:h2.get? s.heap.objs.size=some {cls:=.type "tuple",data:=.seq #[.int i s.toks,u]}:=k.extBut _ _ (lt a) a3;refine⟨.ref s.heap.objs.size,aD H s.heap.objs.size (.tup [.int i,x]),I.movedT (tk:=s.toks+1) hf kk (Lb _) ⟨show 2<=sizeLine from by decide +kernel,[.int i s.toks,u],.cons ⟨_,rfl⟩ (.cons Z .nil),_,hT,rfl,_,rfl⟩,rfl,
   ⟨_,x,rfl,m,rfl,λzs G=>by rw[I.list_inj G B];exact J⟩,⟨⟨u,by simpa using O⟩,a2.extBut k.extBut (Ne.symm hei)⟩,λb r=>?_⟩
  have M:b≠s.heap.objs.size:=by
   simp only[K5,List.not_mem_nil,or_false]at r;rcases r with rfl | rfl
   ·exact(lt a).symm
   ·exact(lt T).symm
  rw[ar M];exact(hf b r).1
 done:=by
  intro X R L S j i y s σ H E I hf g hg;subst R L S;obtain⟨Y,B,J⟩:=hg;obtain⟨D,C,p,hz⟩:=I.list B;obtain⟨⟨old,a⟩,h1⟩:=g;have l1':=C.length;refine wpAny_pyNext_enum_end (I.ok.hd j) a h1 p.isList (by simp;omega) λU n=>⟨rfl,I.moved (tk:=s.toks) hf λc o j e=>n c o (λq=>j (by simp[q])) e⟩
 self:=λ_ _ _ _ _ g h=>let ⟨⟨_,a⟩,_⟩:=g;wpAny_pyIter_enum a h
section
variable {X:Cx}{elts:L3}{x1:Nat}{tp:Pos}
def Ca(K:LM)(ta:TA):TI:=λσ H R=>ta σ H λvs H1=>∃a xs,vs=[.ref a]/\aQ K H1 a xs/\R (GI K a) H1
theorem tE{a:Expr}{ta:TA}{p pos:Pos}(hg:Gl X "enumerate")(hm:X.mg "enumerate"=none)(ha:PA X [a] ta)(hs:autoParam (starEach [a] X.env=[(false,eval a X.env)]) zz0._auto_1):PI X (.Tuple elts x1 tp) (.Call (.Name "enumerate" p) [a] [] pos) (Ca X.K ta):=by
 intro c s σ H R I h;refine Call_ (fc I hg hm boot_enumerate (PyProof.Rows.callWith_type1 (ci (ha pos c s σ H _ I h) λus g ⟨vs,H1,k,v,w⟩=>?_) (by rw[hs];rfl) (by rfl)));obtain⟨l,xs,rfl,y,q⟩:=w;obtain⟨u,rfl,r⟩:=v.one;cases r;obtain⟨its,rv,x,_⟩:=k.list y;refine call_enumerate_list x.isList λB m o z3 z=>?_;have C:Inv X c σ H1 {g with heap:=B }:=k.kept (t':=g.toks) z;refine wpAny_pyIter_enum m ?_;refine⟨g.heap.objs.size+1,[g.heap.objs.size+1,g.heap.objs.size],_,_,H1,rfl,C,zT (l:=l) (Nat.ne_of_gt (Ll _)),⟨⟨_,m⟩,o⟩,λb n=>?_,q⟩;have j:g.heap.objs.size<=b:=by
  simp only[K5,List.not_mem_nil,or_false]at n;rcases n with e | e<;>(rw[e];first | exact Lb _ | exact Nat.le_add_right _ _)
 exact k.fpOk j (k.hok.fresh j)
end
section
variable {K:LM}{g:TG}{tb:TS}{D:gO}{σ:St}{H:Hp}
theorem qX{xs:List V}(Pv:Nat->St->Hp->Prop)(h0:Pv 0 σ H)(hl:∀i σ H,i<=xs.length->Pv i σ H->aQ K H a xs)
  (hs:∀(i:Nat) x σ H T,xs[i]?=some x->Pv i σ H->H T=none->g (.ref T) σ (aD H T (.tup [.int (i:Int),x])) λσ2 H2=>tb {D with nx:=Pv (i+1),ct:=Pv (i+1),bk:=D.nx} σ2 H2) (hd:∀σ H,Pv xs.length σ H->D.nx σ H):Aj (GI K a) g tb D σ H:=by
 refine⟨λi m σ H=>m=xs.length-i/\i<=xs.length/\Pv i σ H,⟨xs.length,by simp,Lc _,h0⟩,?_⟩;rintro i m σ H ⟨rfl,c,p⟩;have q:=hl i σ H c p
 by_cases b:i<xs.length
 ·refine .inr ⟨⟨xs,xs[i],q,by simp[b]⟩,Pv (i+1),λσ' k p'=>⟨xs.length-(i+1),⋯,rfl,b,p'⟩,λx k y=>?_⟩
  obtain⟨T,x,rfl,j,rfl,y⟩:=y;exact hs i x σ _ T (y xs q) p j
 ·have e:i=xs.length:=by omega
  subst e;exact .inl ⟨⟨xs,q,Lb _⟩,hd σ H p⟩
end
end L2
namespace PySem.W
open PySem PySem.Spec PySem.Calls PyProof.Rows
open Builtin Builtin.ObjectAttr
def EF:List Value->List Value
 | .ref _::r=>EF r
 |l=>l
end PySem.W
namespace L2
open PySem PySem.Spec PyProof.Rows
end L2
namespace PySem.W
open PySem PySem.Spec PySem.Calls PyProof.Rows
end PySem.W
namespace SpM
open PySem
def glue(c:Nat):List (List Nat)->List Nat
 | []=>[]
 | [p]=>p
 |p::q::r=>p++c::glue c (q::r)
def step(c:Nat)(rows:List (List Nat))(d:Nat):List (List Nat):=if d=c then rows++[[]] else rows.dropLast++[rows.getLastD []++[d]]
def parts(c:Nat)(x:LO):List (List Nat):=x.foldl (step c) [[]]
theorem qR(c:Nat):∀{rows:List (List Nat)},rows≠[]->glue c (rows++[[]])=glue c rows++[c]
 | [p],_=>by simp[glue]
 |p::q::r,_=>by
  have:=qR c (rows:=q::r) (by simp);show p++c::glue c ((q::r)++[[]])=(p++c::glue c (q::r))++[c];rw[this];simp
theorem rZ(c d:Nat):∀{rows:List (List Nat)},rows≠[]->glue c (rows.dropLast++[rows.getLastD []++[d]])=glue c rows++[d]
 | [p],_=>by simp[glue]
 |p::q::r,_=>by
  have:=rZ c d (rows:=q::r) (by simp);have e:(p::q::r).dropLast++[(p::q::r).getLastD []++[d]]=p::((q::r).dropLast++[(q::r).getLastD []++[d]]):=by simp
  rw[e];obtain⟨u,v,a⟩:∃u v,(q::r).dropLast++[(q::r).getLastD []++[d]]=u::v:=by
   cases h:(q::r).dropLast with
   |nil=>exact⟨_,[],rfl⟩
   |cons u v=>exact⟨u,v++_,rfl⟩
  rw[a]at this ⊢;show p++c::glue c (u::v)=(p++c::glue c (q::r))++[d];rw[this];simp
theorem fold_spec(c:Nat):∀(x:LO) (rows:List (List Nat)),rows≠[]->(∀p∈rows,c∉p)->x.foldl (step c) rows≠[]/\(∀p∈x.foldl (step c) rows,c∉p)/\glue c (x.foldl (step c) rows)=glue c rows++x
 | [],rows,h,hf=>⟨h,hf,by simp⟩
 |d::x,rows,h,hf=>by
  have h1:step c rows d≠[]:=by unfold step;split<;>simp
  have h2:∀p∈step c rows d,c∉p:=by
   intro p hp;unfold step at hp
   split at hp
   ·rcases K3.mp hp with q | q
    ·exact hf p q
    ·rw[KP.mp q];simp
   ·rename_i hd
    rcases K3.mp hp with q | q
    ·exact hf p (List.dropLast_subset _ q)
    ·rw[KP.mp q]
     intro z;rcases K3.mp z with z | z
     ·have hl:rows.getLastD []∈rows:=by
       rw[List.getLastD_eq_getLast?,List.getLast?_eq_some_getLast h];exact List.getLast_mem h
      exact hf _ hl z
     ·exact hd (KP.mp z).symm
  have h3:glue c (step c rows d)=glue c rows++[d]:=by
   unfold step
   split
   ·rename_i e;rw[e];exact qR c h
   ·exact rZ c d h
  obtain⟨g1,g2,g3⟩:=fold_spec c x (step c rows d) h1 h2;exact⟨g1,g2,by rw[List.foldl_cons,g3,h3];simp⟩
theorem yg{c:Nat}:∀{p q a b:LO},c∉p->c∉q->p++c::a=q++c::b->p=q/\a=b
 | [],[],a,b,_,_,e=>⟨rfl,by simpa using e⟩
 | [],y::q,a,b,_,hq,e=>by simp at e;exact q0Q e.1 (λz=>hq (by simp[z]))
 |x::p,[],a,b,hp,_,e=>by simp at e;exact q0Q e.1.symm (λz=>hp (by simp[z]))
 |x::p,y::q,a,b,hp,hq,e=>by
  simp at e;obtain⟨e1,e2⟩:=yg (p:=p) (q:=q) (λz=>hp (by simp[z])) (λz=>hq (by simp[z])) e.2;exact⟨by rw[e.1,e1],e2⟩
theorem glue_inj(c:Nat):∀{rows rows':List (List Nat)},rows≠[]->rows'≠[]->(∀p∈rows,c∉p)->(∀p∈rows',c∉p)->glue c rows=glue c rows'->rows=rows'
 | [p],[q],_,_,_,_,e=>by simpa[glue]using e
 | [p],q::q'::r,_,_,hf,_,e=>by
  have:c∈p:=by rw[show p=q++c::glue c (q'::r) from e];simp
  exact q0Q this (hf p (by simp))
 |p::p'::r,[q],_,_,_,hf,e=>by
  have:c∈q:=by rw[show q=p++c::glue c (p'::r) from e.symm];simp
  exact q0Q this (hf q (by simp))
 |p::p'::r,q::q'::r',_,_,h1,h2,e=>by
  obtain⟨g,b⟩:=yg (h1 p (by simp)) (h2 q (by simp)) (show p++c::glue c (p'::r)=q++c::glue c (q'::r') from e);have:=glue_inj c (rows:=p'::r) (rows':=q'::r') (by simp) (by simp) (λz a=>h1 z (by simp[a])) (λz a=>h2 z (by simp[a])) b;rw[g,this]
theorem join_glue(c:Nat):∀(ys:LW),(Builtin.Str.glued ⟨#[c]⟩ ys).cps.toList=glue c (ys.map λy=>y.cps.toList)
 | []=>rfl
 |y::ys=>by
  have key:∀(zs:LW) (a:Array Nat),(zs.foldl (λacc (p:Str)=>acc++(⟨#[c]⟩:Str).cps++p.cps) a).toList=glue c (a.toList::zs.map λy=>y.cps.toList):=by
   intro zs
   induction zs with
   |nil=>intro a;rfl
   |cons z zs ih=>
    intro a;rw[List.foldl_cons,ih];show glue c ((a ++ #[c]++z.cps).toList::_)=a.toList++c::glue c (z.cps.toList::_);have e:(a ++ #[c]++z.cps).toList=a.toList++c::z.cps.toList:=by simp
    rw[e];cases zs with
    |nil=>simp[glue]
    |cons w ws=>simp[glue]
  exact key ys y.cps
theorem split_parts(x:Str)(c:Nat):(Txt.split x ⟨#[c]⟩).map (λy=>y.cps.toList)=parts c x.cps.toList:=by
 obtain⟨m,l,k⟩:=fold_spec c x.cps.toList [[]] (by simp) (by simp);have b:(Txt.split x ⟨#[c]⟩).map (λy=>y.cps.toList)≠[]:=by
  intro h;have a:Txt.split x ⟨#[c]⟩=[]:=by simpa using h
  unfold Txt.split at a
  split at a
  ·cases a
  ·split at a
   ·cases a
   ·simp[Builtin.Str.partsBetween]at a
 refine glue_inj c b m (λp j=>?_) l ?_
 ·obtain⟨y,g,rfl⟩:=Lx.mp j
  exact StrLaws.split_free x c y g
 ·have h:=StrLaws.join_split x ⟨#[c]⟩
  have e:glue c ((Txt.split x ⟨#[c]⟩).map λy=>y.cps.toList)=x.cps.toList:=by
   rw[<- join_glue,StrLaws.glued_eq_join,h]
  rw[e];unfold parts;rw[k];simp[glue]
theorem glue_len(c:Nat):∀{rows:List (List Nat)} {n:Nat},(∀r∈rows,r.length<=n)->(glue c rows).length<=rows.length*(n+1)
 | [],_,_=>by simp[glue]
 | [p],n,h=>by have:=h p (by simp);simp[glue];omega
 |p::q::r,n,h=>by
  have h1:=h p (by simp);have h2:=glue_len c (rows:=q::r) (n:=n) λx hx=>h x (by simp[hx]);show(p++c::glue c (q::r)).length<=_;rw[La,K1,K1,Nat.succ_mul];omega
end SpM
namespace PyProof.Rows
open PySem PySem.Spec PySem.Builtin PySem.Builtin.Str
section
variable {prog:LV}{w:LY}{A:LX}{E:LL}{s:LP}{x y:Str}{t u:Tok}{Q:LL}
theorem xc(hy:(y.length==0)=false)
  (h:∀(l:List (Str×Tok)) (k:Nat),l.map (·.1)=Txt.split x y->Q (.ref s.heap.objs.size) {s with heap:=s.heap.push {cls:=.type "list",data:=.seq (strValues l).toArray},toks:=k})
  (hsz:x.length+2<=sizeLine):wpAny c⁻¹ A (call (.builtin "str.split") [.str x t,.str y u]) Q E s:=by
 have b:(partsBetween x (occurrences x y 0 x.length (x.length+1)) y.length).length<=sizeLine:=by
  have e1:=StrLaws.occ_length_le x y 0 x.length (x.length+1);rw[length_partsBetween];omega
 cases h1:(decide (x.length<y.length)||decide (Builtin.Str.strKind x<Builtin.Str.strKind y))
 ·cases a:(occurrences x y 0 x.length (x.length+1)).isEmpty
  ·refine call_meets F.slot_str_split (typeIs_str _ _ _) F.entry_str_split (F.args_str_split_2 _ _) (meets_str_split_sep x y t u h1 hy a ⋯ b) ?_
   show wants Q E _ {s with toks:=_,heap:=s.heap.push {cls:=.type "list",data:=.seq (strsFrom s.toks (partsBetween x (occurrences x y 0 x.length (x.length+1)) y.length)).toArray} };rw[strsFrom_eq];exact h (numbered s.toks _) _ ((numbered_texts _ _).trans ((q06 (ne_true_of_eq_false h1)).trans (q06 (ne_true_of_eq_false a))).symm)
  ·exact call_meets F.slot_str_split (typeIs_str _ _ _) F.entry_str_split (F.args_str_split_2 _ _) (meets_str_split_not_found x y t u h1 hy a)
    (h [(x,t)] s.toks ((q06 (ne_true_of_eq_false h1)).trans (q07 a)).symm)
 ·exact call_meets F.slot_str_split (typeIs_str _ _ _) F.entry_str_split (F.args_str_split_2 _ _) (meets_str_split_cannot_occur x y t u h1)
   (h [(x,t)] s.toks (q07 h1).symm)
end
end PyProof.Rows
namespace L2
open PySem PySem.Spec PyProof.Rows QL
theorem rW:∀(l:List (Str×Tok)),bh ((l.map (·.1)).map V.str) (strValues l)
 | []=>.nil
 | (a,t)::l=>.cons ⟨t,rfl⟩ (rW l)
theorem m8(z:LO)(c:Nat):(Txt.split (tx z) ⟨#[c]⟩).map V.str=ao (SpM.parts c z):=by
 have e:=SpM.split_parts (tx z) c;rw[dh]at e;rw[<- e];unfold ao;rw[K4];refine q0K λy _=>?_;show V.str y=V.str (tx y.cps.toList);unfold tx;simp
section
variable {X:Cx}
def wk:V->List V->Hp->VK->Prop:=λx xs H Q=>∃z c,x=.str (tx z)/\xs=[.str ⟨#[c]⟩]/\z.length<=1000/\∀p,H p=none->Q (.ref p) (aD H p (.lst (ao (SpM.parts c z))))
theorem BD:Gx X "str.split" wk:=by
 intro pins s σ H x xs v us Q I rx rv h;obtain⟨z,c,rfl,rfl,hz,q⟩:=h;obtain⟨t,rfl⟩:=rx;obtain⟨u,rfl,m⟩:=rv.one;obtain⟨t',rfl⟩:=m;refine xc (by rfl) (λl k n=>?_) (by rw[ax];exact au ⋯);have g:H s.heap.objs.size=none:=I.hok.fresh (Lb _);have j:=rW l;rw[n,m8]at j;have a:(ao (SpM.parts c z)).length<=sizeLine:=by
  have e:=fact_split (tx z) ⟨#[c]⟩;rw[<- m8,KO];have o:=e.2;rw[ax]at o;exact au ⋯
 refine⟨.ref s.heap.objs.size,aD H s.heap.objs.size (.lst (ao (SpM.parts c z))),I.laid (t':=k) (λb u e=>KN _ e) (Lb _) ⟨a,_,0,j,KU _ rfl⟩,rfl,q _ g⟩
end
structure Bv(K:LM)(C:Addr)(m:Str)(f:Addr):Prop where
 sp:PySem.W.specialIn K (.ref C) "__getattribute__"=some (some (.builtin "type.__getattribute__"))
 rd:PySem.W.readsIn K C (.type "type")=true
 fi:PySem.W.findCls K (.ref C) (.type "type") m=some (.val (.ref f))
 kp:PySem.W.keepIn K (.ref f)=true
section
variable {X:Cx}{CX:j9}{k:Nat}{f C:Addr}{fd:LU}{ps:LW}{sp:Sp}{E:XK}{x m:Str}{p pos apos:Pos}{e:Expr}{es:L3}{t:TA}
theorem Av{pl:Sem Bool}(c:Bv X.K C m f)(F:bj X.prog X.w X.K X.mg X.base CX k f fd ps sp)(hr:cQ k X.A)(hg:Gl X x)(hm:X.mg x=some (.ref C))(hb:dO X.K fd ps [])(hx:dC CX X E)(ha:PA X (e::es) t)
  (hdb:autoParam g⁻¹ zz2._auto_1) (hst:autoParam (starEach (e::es) X.env=(false,eval e X.env)::starEach es X.env) zz0._auto_1) (hpl:autoParam e⁻¹ zz0._auto_1)
  (ht:autoParam (eval (.Call (.Attribute (.Name x p) m apos) (e::es) [] pos) X.env=(do
   let ov <- eval (.Name x p) X.env
   standAt apos.atName
   let (f,first) <- holding [ov] (getMethod ov m pl)
   callWith pos f first (backTo pos (starEach (e::es) X.env)) (backToKw pos (keywordEach [] X.env)))) zz0._auto_1) :
  PE X (.Call (.Attribute (.Name x p) m apos) (e::es) [] pos) (kZ sp [] E t):=by
 intro a s σ H Q I h;refine PySem.W.methodCall_KW (pl:=pl) (oa I hg hm ?_ hdb) ht;refine PySem.W.method_cls I.kIn c.sp (PySem.W.cls_value I.kIn c.rd c.fi rfl ?_);have j:=I.tok (s.toks+1);refine PySem.W.callWith_K (first:=[]) (h₀:=X.base) I.ok.mod.kin c.kp (ci (ha pos a _ σ H _ j h) λus s2 ⟨vs,H2,b,r,g⟩=>⟨b.kIn,?_⟩) hst hpl;exact mf F hr hb .nil hx b r g
end
section
variable (P:LV)(w:LY)(K:LM)(mg:LS)(base:Heap)(CX:j9)
structure Ac(k:Nat)(x m:Str)(ps:LW)(sp:Sp):Prop where
 ex:∃(C f:Addr) (fd:LU),bj P w K mg base CX k f fd ps sp/\mg x=some (.ref C)/\Bv K C m f/\dO K fd ps []
structure li(k:Nat)(x:Str)(C:Addr)(ps:LW)(sp:Sp):Prop where
 ex:∃(f:Addr) (fd:LU),bj P w K mg base CX k f fd ps sp/\mg x=some (.ref C)/\Mk K C f/\dO K fd ps []
structure hZ(k:Nat)(C:Addr)(m:Str)(ps:LW)(sp:Sp):Prop where
 ex:∃(f:Addr) (fd:LU),bj P w K mg base CX k f fd ps sp/\jA K C/\iX K C m f/\dO K fd ps []
end
section
variable {X:Cx}{CX:j9}{k:Nat}{C:Addr}{ps:LW}{sp:Sp}{E:XK}{x m:Str}{p pos apos:Pos}{e o:Expr}{es:L3}{t:TA}{ta:TE}
theorem oj{pl:Sem Bool}(c:Ac X.prog X.w X.K X.mg X.base CX k x m ps sp)(hr:cQ k X.A)(hg:Gl X x)(hx:dC CX X E)(ha:PA X (e::es) t)
  (hdb:autoParam g⁻¹ zz2._auto_1) (hst:autoParam (starEach (e::es) X.env=(false,eval e X.env)::starEach es X.env) zz0._auto_1) (hpl:autoParam e⁻¹ zz0._auto_1)
  (ht:autoParam (eval (.Call (.Attribute (.Name x p) m apos) (e::es) [] pos) X.env=(do
   let ov <- eval (.Name x p) X.env
   standAt apos.atName
   let (f,first) <- holding [ov] (getMethod ov m pl)
   callWith pos f first (backTo pos (starEach (e::es) X.env)) (backToKw pos (keywordEach [] X.env)))) zz0._auto_1) :
  PE X (.Call (.Attribute (.Name x p) m apos) (e::es) [] pos) (kZ sp [] E t):=by
 obtain⟨C,f,fd,F,a,g,b⟩:=c.ex;exact Av g F hr hg a b hx ha hdb hst hpl ht
theorem ir(c:li X.prog X.w X.K X.mg X.base CX k x C ps sp)(hr:cQ (k+1) X.A)(hg:Gl X x)(hx:dC CX X E)(ha:PA X (e::es) t)
  (hdb:autoParam g⁻¹ zz2._auto_1) (hst:autoParam (starEach (e::es) X.env=(false,eval e X.env)::starEach es X.env) zz0._auto_1) (hpl:autoParam e⁻¹ zz0._auto_1) :
  PE X (.Call (.Name x p) (e::es) [] pos) (yu C sp [] E t):=by
 obtain⟨f,fd,F,a,M,b⟩:=c.ex;exact Dw M F hr hg a b .nil hx ha hdb hst hpl
theorem jJ{pl:Sem Bool}(c:hZ X.prog X.w X.K X.mg X.base CX k C m ps sp)(hr:cQ k X.A)(hx:dC CX X E)(he:PE X o ta)(ha:PA X (e::es) t)
  (hst:autoParam (starEach (e::es) X.env=(false,eval e X.env)::starEach es X.env) zz0._auto_1) (hpl:autoParam e⁻¹ zz0._auto_1)
  (ht:autoParam (eval (.Call (.Attribute o m apos) (e::es) [] pos) X.env=(do
   let ov <- eval o X.env
   standAt apos.atName
   let (f,first) <- holding [ov] (getMethod ov m pl)
   callWith pos f first (backTo pos (starEach (e::es) X.env)) (backToKw pos (keywordEach [] X.env)))) zz0._auto_1) :
  PE X (.Call (.Attribute o m apos) (e::es) [] pos) (rV C m sp [] E ta t):=by
 obtain⟨f,fd,F,g,a,b⟩:=c.ex;exact Dq he g a F hr b .nil hx ha hst hpl ht
theorem ph{pl:Sem Bool}(c:hZ X.prog X.w X.K X.mg X.base CX k C m ps sp)(hr:cQ k X.A)(hx:dC CX X E)(he:PE X o ta)
  (ht:autoParam (eval (.Call (.Attribute o m apos) [] [] pos) X.env=(do
   let ov <- eval o X.env
   standAt apos.atName
   let (f,first) <- holding [ov] (getMethod ov m pl)
   callWith pos f first (backTo pos (starEach [] X.env)) (backToKw pos (keywordEach [] X.env)))) zz0._auto_1) :
  PE X (.Call (.Attribute o m apos) [] [] pos) (rV C m sp [] E ta oN):=by
 obtain⟨f,fd,F,e,a,b⟩:=c.ex;exact Cm he e a F hr b .nil hx ht
end
section
variable {g:TG}{ti:TT}{te:TE}{σ:St}{H:Hp}{Q:List V->Hp->Prop}
theorem BO{x:Str}(Pv:Nat->List V->St->Hp->Prop)(h0:Pv 0 [] σ H)(hz:∀i acc σ H,Pv i acc σ H->acc.length<sizeLine)(hi:∀i acc σ H,Pv i acc σ H->i<=x.cps.size)
  (hs:∀i c acc σ H,x.cps[i]?=some c->Pv i acc σ H->g (.str ⟨#[c]⟩) σ H λσ2 H3=>ti σ2 H3 λb H4=>if b=true then te σ2 H4 λv H5=>Pv (i+1) (acc++[v]) σ2 H5 else Pv (i+1) acc σ2 H4)
  (he:∀acc σ H,Pv x.cps.size acc σ H->Q acc H):gl (F_ x) g ti te σ H Q:=by
 exact jP (J:=F_ x) (g:=g) (ti:=ti) (te:=te) (Q:=Q) (n:=x.cps.size) Pv h0 hz hi (λacc σ H w=>Lb _) (λi acc σ H hlt w=>hlt)
  (λi v acc σ H H2 hlt w y=>by obtain⟨rfl,c,a,rfl⟩:=y;exact hs i c acc σ H2 a w) he
end
section
variable (P:LV)(w:LY)(K:LM)(mg:LS)(base:Heap)(CX:j9)
structure v3(k:Nat)(m:Str)(os:List (Addr×Sp)):Prop where
 ex:∀o∈os,∃ps,hZ P w K mg base CX k o.1 m ps o.2
end
def tz(m:Str)(os:List (Addr×Sp))(E:XK)(ta:TE)(t:TA):TE:=λσ H Q=>ta σ H λx H1=>∃o∈os,∃a dx fs,x=.ref a/\H1 a=some (.ins o.1 dx fs)/\fs.lookup m=none /\
 t σ H1 λvs H2=>o.2 (x::(vs++[])) H2 Q E
section
variable {X:Cx}{CX:j9}{k:Nat}{os:List (Addr×Sp)}{E:XK}{m:Str}{pos apos:Pos}{e o:Expr}{es:L3}{t:TA}{ta:TE}
theorem Dm{pl:Sem Bool}(c:v3 X.prog X.w X.K X.mg X.base CX k m os)(hr:cQ k X.A)(hx:dC CX X E)(he:PE X o ta)(ha:PA X (e::es) t)
  (hst:autoParam (starEach (e::es) X.env=(false,eval e X.env)::starEach es X.env) zz0._auto_1) (hpl:autoParam e⁻¹ zz0._auto_1)
  (ht:autoParam (eval (.Call (.Attribute o m apos) (e::es) [] pos) X.env=(do
   let ov <- eval o X.env
   standAt apos.atName
   let (f,first) <- holding [ov] (getMethod ov m pl)
   callWith pos f first (backTo pos (starEach (e::es) X.env)) (backToKw pos (keywordEach [] X.env)))) zz0._auto_1) :
  PE X (.Call (.Attribute o m apos) (e::es) [] pos) (tz m os E ta t):=by
 intro b s σ H Q I h;refine PySem.W.methodCall_KW (pl:=pl) (ci (he b s σ H _ I h) λu p ⟨x,H1,n,v,y,z,a,dx,fs,ex,C,l,q⟩=>?_) ht;subst ex;obtain rfl:u=Value.ref a:=v;obtain⟨ps,D⟩:=c.ex y z;obtain⟨f,fd,F,G,g,B⟩:=D.ex;refine fW n C G g l ?_;refine PySem.W.callWith_K (first:=[.ref a]) (h₀:=X.base) I.ok.mod.kin g.kp (ci (ha pos b p σ H1 _ n q) λus s2 ⟨vs,H2,j,r,w⟩=>⟨j.kIn,?_⟩) hst hpl;exact mf (us:=.ref a::us) (vs:=.ref a::vs) F hr B .nil hx j (.cons rfl r) w
theorem vj{pl:Sem Bool}(c:v3 X.prog X.w X.K X.mg X.base CX k m os)(hr:cQ k X.A)(hx:dC CX X E)(he:PE X o ta)
  (ht:autoParam (eval (.Call (.Attribute o m apos) [] [] pos) X.env=(do
   let ov <- eval o X.env
   standAt apos.atName
   let (f,first) <- holding [ov] (getMethod ov m pl)
   callWith pos f first (backTo pos (starEach [] X.env)) (backToKw pos (keywordEach [] X.env)))) zz0._auto_1) :
  PE X (.Call (.Attribute o m apos) [] [] pos) (tz m os E ta oN):=by
 intro b s σ H Q I h;refine PySem.W.methodCall_KW (pl:=pl) (ci (he b s σ H _ I h) λu s1 ⟨x,H1,e,j,n,p,a,dx,fs,ex,v,l,q⟩=>?_) ht;subst ex;obtain rfl:u=Value.ref a:=j;obtain⟨ps,w⟩:=c.ex n p;obtain⟨f,fd,F,y,g,r⟩:=w.ex;refine fW e v y g l ?_;exact PySem.W.callWith_K0 (first:=[.ref a]) e.kIn g.kp (mf (us:=[.ref a]) (vs:=[.ref a]) F hr r .nil hx e (.cons rfl .nil) q)
end
structure jn(K:LM)(C:Addr):Prop where
 cl:jA K C
 ha:PySem.W.findIn K (.ref C) "__class__"=some (some (.builtin "object.__class__"))
 hn:PySem.W.specialIn K (.builtin "object.__class__") "__get__"=some (some (.builtin "getset_descriptor.__get__"))
 htk:PySem.W.takesIn K (.builtin "object.__class__")=some true
 hm:PySem.W.mroIn K C (.type "object")=some true
theorem jn.ty{K:LM}{H:Hp}{fs:List (Str×V)}(i:jn K C)(e:H a=some (.ins C dx fs)):jw K H (.ref a) (.ref C):=.ins e i.cl i.ha i.hn i.htk i.hm
section
variable {X:Cx}{es:L3}{t:TA}
theorem fU{x j p}(hr:PA X es t):PA X (.Constant (.str x) j p::es) (ke (tC (.str x)) t):=ac pU hr rfl
theorem bN{x j p}(hr:PA X es t):PA X (.Constant (.int x) j p::es) (ke (tC (.int x)) t):=ac ai hr rfl
end
end L2
namespace PyProof.Rows
open PySem PySem.Spec PySem.Builtin PySem.Builtin.Str
end PyProof.Rows
namespace L2
open PySem PySem.Spec PyProof.Rows QL
theorem yt:∀(xs:List V) (us:LQ),xs.length=us.length->(∀(j:Nat) (x:V) (u:Value),xs[j]?=some x->us[j]?=some u->bG x u)->bh xs us
 | [],[],_,_=>.nil
 |x::xs,u::us,hl,h=>.cons (h 0 x u rfl rfl) (yt xs us (by simpa using hl) λj y v e1 e2=>h (j+1) y v (by simpa using e1) (by simpa using e2))
section
variable {X:Cx}{pins:LN}{σ:St}{H:Hp}{s:LP}{a:Addr}{kvs:List (c_×V)}{k:c_}{u r:Value}{d:V}{A:LX}{E:LL}
theorem BS{Q:LL}(I:Inv X pins σ H s)(e:H a=some (.dK kvs))(ry:bG (kV k) u)(rd:bG d r)(hl:kvs.length<sizeLine)
  (h1:∀v w' s',dS kvs k=some v->Inv X pins σ H s'->bG v w'->Q w' s') (h2:dS kvs k=none->∀s',Inv X pins σ (aD H a (.dK (dL kvs k d))) s'->Q r s') :
  wpAny d⁻¹ A (call (.builtin "dict.setdefault") [.ref a,u,r]) Q E s:=by
 obtain⟨z,l,vs,c,m⟩:=rU I.hok e;have n:vs.length<=sizeLine:=by rw[<- c.length];exact z
 have j:(dL kvs k d).length<=sizeLine:=by have:=gn kvs k d;omega
 refine call_meetsIn PySem.F.slot_dict_setdefault m.typeIs PySem.F.entry_dict_setdefault (PySem.F.args_dict_setdefault_3 _ _ _) (kt_meets_setdefault (cj X.prog X.w) a (m9 ry) l r) ⟨vs,m,n,λv o=>?_,λx B g p=>?_⟩
 ·have q:=c.val k
  rw[o]at q;cases b:dS kvs k with
  |none=>rw[b]at q;exact False.elim q
  |some v0=>rw[b]at q;exact h1 v0 v _ b (I.tok _) q
 ·have q:=c.val k
  rw[x]at q;have b:dS kvs k=none:=by
   cases b:dS kvs k with
   |none=>rfl
   |some v0=>rw[b]at q;exact False.elim q
  have y:∃q,B.get? a=some q:=let ⟨q,_,_,hq,_⟩:=g;⟨q,hq⟩
  exact h2 b _ (nY I (by rw[e];exact True.intro) p y (xb j l (c.put k rd) g))
end
def uW(td ty tx:TE):TE:=λσ H Q=>td σ H λx H1=>∃a,x=.ref a/\GZ H1 a/\ty σ H1 λy H2=>tx σ H2 λz H3=>∃kvs k,H3 a=some (.dK kvs)/\y=kV k/\kvs.length<sizeLine /\
 (∀v,dS kvs k=some v->Q v H3)/\(dS kvs k=none->Q z (aD H3 a (.dK (dL kvs k z))))
section
variable {X:Cx}{o e f:Expr}{apos cpos:Pos}{td ty tx:TE}
theorem oX(ho:PE X o td)(he:PE X e ty)(hf:PE X f tx)(m:M2 X o "setdefault" apos e f cpos):PE X (.Call (.Attribute o "setdefault" apos) [e,f] [] cpos) (uW td ty tx):=by
 intro b s σ H Q I h;refine wpAny_Call_method m.base m.few m.line PySem.F.plainAttrs_dict PySem.F.slot_dict_setdefault PySem.F.type_dict_setdefault (ci (ho b s σ H _ I h) λu w ⟨x,H1,l,C,a,U,d,J⟩=>?_);subst U;obtain rfl:u=Value.ref a:=C;obtain⟨p,n,_⟩:=wy l d;refine⟨p,n,?_⟩;rw[m.trees];refine Calls.callWith_builtin rfl (Calls.evalArgs_plain (Calls.spliced_cons (ci (he b w σ H1 _ l J) λiv r ⟨y,H2,Z,B,G⟩=>
  Calls.spliced_cons (ci (hf b r σ H2 _ Z G) λfv s3 ⟨z,H3,Y,j,kvs,k,O,T,c,S,R⟩=>Calls.spliced_nil ?_))))
 subst T;exact BS Y O B j c (λv w' q L g D=>⟨v,H3,g,D,S v L⟩) λM q g=>⟨z,_,g,j,R M⟩
end
theorem Gv(h:(cj P w).is k u=true):bG (kV k) u:=by
 rcases cz (show qd k u=true from h) with⟨i,t,rfl,rfl⟩ | ⟨x,t,rfl,rfl⟩<;>exact⟨_,rfl⟩
section
variable {X:Cx}
def xk:List V->Hp->VK->Prop:=λxs H Q=>∃a kvs,xs=[.ref a]/\H a=some (.dK kvs)/\∀l,H l=none->Q (.ref l) (aD H l (.lst (kvs.map λkv=>kV kv.1)))
theorem w8(hc:X.calm=true):g7 X (.type "list") xk:=by
 intro pins s σ H xs us Q I r h;obtain⟨a,l,rfl,e,q⟩:=h;obtain⟨u,rfl,v⟩:=vX r;obtain rfl:u=Value.ref a:=v;obtain⟨z,hd,vs,g,M⟩:=rU I.hok e;obtain⟨ep,O⟩:=M.dictAt;have y:vs.length<=sizeLine:=by rw[<- g.length];exact z
 refine PySem.W.kdl_call (PySem.W.kdl_dict hd) (I.ok.hd hc) O y λh' p c R D J b=>?_;have B:bh (l.map λm=>kV m.1) c.toList:=by
  refine yt _ _ (by rw[KO];simp[b.1,g.length]) λj x u o L=>?_;obtain⟨k,w,n,G⟩:=b.2 j u (by simpa using L);have C:(l.map λm=>kV m.1)=(vs.map (·.1)).map kV:=by rw[<- g.keys,K4];rfl
  rw[C,KQ,KQ,n]at o;cases o;exact Gv G
 exact⟨.ref s.heap.objs.size,aD H s.heap.objs.size (.lst (l.map λm=>kV m.1)),I.laid (t':=p) D (Lb _) ⟨by rw[KO];exact z,c.toList,R,B,by simpa using J⟩,rfl,q _ (I.hok.fresh (Lb _))⟩
end
section
variable {K:Type}[DecidableEq K]
def gC(σ:List K)(v:K):List K:=if v∈σ then σ else σ++[v]
def met(l:List K):List K:=l.foldl gC []
theorem uS(σ:List K)(v k:K):decide (k∈gC σ v)=(decide (k∈σ)||decide (k=v)):=by
 unfold gC
 by_cases h:v∈σ
 ·rw[q07 h]
  by_cases e:k=v
  ·subst e;simp[h]
  ·simp[e]
 ·rw[q06 h]
  simp[K3]
theorem nu(σ:List K)(v:K):(gC σ v).length=if decide (v∈σ) then σ.length else σ.length+1:=by
 unfold gC
 by_cases h:v∈σ<;>simp[h]
theorem vc(l:List K)(v:K):met (l++[v])=gC (met l) v:=by unfold met;rw[List.foldl_append];rfl
theorem yD:∀(l σ:List K),(l.foldl gC σ).length<=σ.length+l.length
 | [],σ=>Lb _
 |v::l,σ=>by
  have h:=yD l (gC σ v);have e:=nu σ v;rw[List.foldl_cons,K1]
  split at e<;>omega
theorem BF(n:Nat)(l:List K)(h:l.length=n):(met l).length<=n:=by
 have:=yD l [];rw[<- h];unfold met;simpa using this
end
section
variable {prog:LV}{w:LY}{K:Type}[DecidableEq K]{knd:KeyKind prog w K}{A:LX}{R:Result->Shared->Prop}{I:Addr}{fp wr:LR}{G:Array GenState->Array GenState->Prop}{n:Nat}{P:Nat->Value->Prop}{St:Nat->Shared->Prop}
theorem CQ(W:WalksS prog w A.in1 I fp wr G n P St)(S:Addr)(hSf:S∉fp)(l:List K)(hl:l.length=n)
  (hval:∀i v,P i v->∃k,l[i]?=some k/\knd.is k v=true/\v.scannable=true) (hb:n+1<scanBound) :
  ∀(k i:Nat) (s:LP),n-i=k->i<=n->St i s ->
   s.heap.SetOf knd S (λk'=>decide (k'∈met (l.take i))) (met (l.take i)).length ->
   (∀s',Moved (S::wr) G s s'->s'.heap.SetOf knd S (λk'=>decide (k'∈met l)) (met l).length->R (.ok (.ret .none)) s') ->
   codeAny c⁻¹ A (.builtin "set.update.loop" ⟨[.ref S,.ref I],[]⟩) R s:=by
 have z:S∉wr:=λh=>hSf (W.sub _ h);have a:∀b∈wr,b∈S::wr:=λb hb=>K6 _ hb;intro k
 induction k with
 |zero=>
  intro i s hk hi c C Y;have M:i=n:=by omega
  subst M;rw[<- hl,Lp]at C;refine codeAny_builtin F.entry_set_update_loop ?_;rw[Around.under_plainId F.plain_set_update_loop _];show wpAny _ A.in1 (pyNext (.ref I) >>= _) _ _ s;refine q04 (W.done s _ _ c λs' r=>?_);show wpAny _ A.in1 (ret Value.none) _ _ s';refine q05 (Y s' (r.mono a) ?_);obtain⟨o,Z,ep,t,L,b_⟩:=C;exact⟨o,Z,ep,t,r.heap S _ z L,b_⟩
 |succ k ih=>
  intro i s hk hi c C Y;have u:i<n:=by omega
  refine codeAny_builtin F.entry_set_update_loop ?_;rw[Around.under_plainId F.plain_set_update_loop _];show wpAny _ A.in1 (pyNext (.ref I) >>= _) _ _ s;refine q04 (W.item i s _ _ u c λv s' hP m r=>?_);obtain⟨j,x,y,J⟩:=hval i v hP;have U:s'.heap.SetOf knd S (λk'=>decide (k'∈met (l.take i))) (met (l.take i)).length:=by
   obtain⟨o,Z,ep,tb,L,b_⟩:=C;exact⟨o,Z,ep,tb,r.heap S _ z L,b_⟩
  show wpAny _ A.in1 (holding [v] (setAdd S v) >>= _) _ _ s';refine q04 (q0Y ?_);unfold setAdd;refine q0Y ?_;refine q04 (knd.pyHash (k:=j) y ?_);have g:(met (l.take i)).length+1<scanBound:=by have:=BF i (l.take i) (by rw[Lq];omega);omega
  refine wpAny_setAddHashed_of (knd:=knd) (s:={s' with toks:=s'.toks+1}) y J U g λh' p T=>?_;have ht:l.take (i+1)=l.take i++[j]:=by rw[q0E,x];rfl
  have O:h'.SetOf knd S (λk'=>decide (k'∈met (l.take (i+1)))) (met (l.take (i+1))).length:=
   SetOf_congr T (λk'=>by rw[ht,vc,uS]) (by rw[ht,vc,nu])
  refine q05 ⟨plainId_quiet F.plain_set_update_loop _,ih (i+1) _ ⋯ u (W.frame _ s' _ _ m (Nat.le_succ _) λb hb o e=>?_) O λD q B=>?_⟩
  ·rw[p.2 b (λh:b=S=>hSf (by rw[<- h];exact hb))];exact e
  ·refine Y D (Moved.trans W.gtrans ((r.mono a).then_heap (Nat.le_succ _) λb o hb e=>?_) q) B
   rw[p.2 b (λh:b=S=>hb (by rw[h];exact q0B))];exact e
end
def dw(z:Str):List Str:=z.cps.toList.map λc=>(⟨#[c]⟩:Str)
section
variable {prog:LV}{w:LY}{A:LX}{E:LL}{s:LP}
def BT(s:LP)(led:Bool):Shared:={s with heap:=s.heap.push {cls:=.type "set",dict:=none,data:=.set #[] 0 (.fresh 0 0 led)} }
set_option maxHeartbeats 3200000 in
theorem uH{v:Value}{R:Heap->Nat->Prop}{Q:LL}
  (hi:∀led,(BT s led).TypeIs (.ref s.heap.objs.size) "set"->codeAny c⁻¹ A.in1 (.call (.builtin "set.__init__") {pos:=[.ref s.heap.objs.size,v]})
   (wants (λr s₂=>r=.none/\∃h' tk,s₂={s with heap:=h',toks:=tk}/\R h' tk) E) (BT s led))
  (h:∀(h':Heap) (tk:Nat),R h' tk->Q (.ref s.heap.objs.size) {s with heap:=h',toks:=tk}) :
  wpAny c⁻¹ A (call (.type "set") [v]) Q E s:=by
 obtain⟨c,tl,hmro⟩:=PySem.F.called_set.mro;have hmade:=PySem.F.called_set.made;have hsub:=PySem.F.called_set.sub;refine wpAny_call (codeAny_of_tree ?_);show wpAny _ _ (callAny (.type "set") _) _ _ _;refine q05 ⟨Code.quiet_builtin _ (by decide +kernel),codeAny_builtin PySem.F.entry_type_call ?_⟩;rw[Around.under_plain (weight_type_call_type "set" [v] []) rfl];have h1:=PySem.F.called_set.notType;have h2:=PySem.F.called_set.canCreate;have hct:=PySem.F.typeCall_set_1 v
 repeat (any_goals (first | with_reducible assumption | with_reducible refine q05 ?_ | with_reducible refine q04 ?_ | with_reducible refine q0Y ?_ | with_reducible refine wpAny_of_eq (by assumption) ?_ | with_reducible refine wpAny_isInstance (by assumption) (by assumption) ?_ | with_reducible refine wpAny_specialOf (by assumption) (by assumption) ?_ | with_reducible refine wpAny_call ?_ | ((with_reducible apply wpAny_ite_false);focus (rfl;done)) | wp_delta))
 refine codeAny_mono (code_set_new_1 v (E:=E) (Q₁:=λb g=>∃led:Bool,b=.ref s.heap.objs.size/\g=BT s led) λled=>⟨led,rfl,rfl⟩) λr g hr=>?_;cases r with
 |error e=>exact hr
 |ok fl=>
  cases fl with
  |ret b=>
   obtain⟨led,rfl,rfl⟩:=hr;have k:(BT s led).TypeIs (.ref s.heap.objs.size) "set":=⟨_,KU _ rfl,rfl⟩;have hli:=PySem.F.called_set.init.lookup;have hbi:=PySem.F.called_set.init.bind (.ref s.heap.objs.size)
   repeat (any_goals (first | with_reducible assumption | with_reducible refine q05 ?_ | with_reducible refine q04 ?_ | with_reducible refine q0Y ?_ | with_reducible refine wpAny_of_eq (by assumption) ?_ | with_reducible refine wpAny_isInstance (by assumption) (by assumption) ?_ | with_reducible refine wpAny_specialOf (by assumption) (by assumption) ?_ | with_reducible refine wpAny_call ?_ | ((with_reducible apply wpAny_ite_false);focus (rfl;done)) | wp_delta))
   refine codeAny_mono (hi led k) λj s₂ a=>?_;cases j with
   |error e=>exact a
   |ok fl₂=>
    cases fl₂ with
    |ret r=>
     obtain⟨rfl,h',tk,rfl,l⟩:=a
     repeat (any_goals (first | with_reducible assumption | with_reducible refine q05 ?_ | with_reducible refine q04 ?_ | with_reducible refine q0Y ?_ | with_reducible refine wpAny_of_eq (by assumption) ?_ | with_reducible refine wpAny_isInstance (by assumption) (by assumption) ?_ | with_reducible refine wpAny_specialOf (by assumption) (by assumption) ?_ | with_reducible refine wpAny_call ?_ | ((with_reducible apply wpAny_ite_false);focus (rfl;done)) | wp_delta))
     exact h _ _ l
    |_=>exact a.elim
  |_=>exact hr.elim
theorem qB{x:Str}{t:Tok}{Q:LL}(hh:A.handled=none)(hb:x.cps.size+1<scanBound)
  (h:∀(h':Heap) (tk:Nat),h'.SetOf (strKind prog w) s.heap.objs.size (λk'=>decide (k'∈met (dw x))) (met (dw x)).length ->
   (∀b o,s.heap.get? b=some o->h'.get? b=some o)->Q (.ref s.heap.objs.size) {s with heap:=h',toks:=tk}) :
  wpAny c⁻¹ A (call (.type "set") [.str x t]) Q E s:=by
 refine uH (R:=λh' _=>h'.SetOf (strKind prog w) s.heap.objs.size (λk'=>decide (k'∈met (dw x))) (met (dw x)).length/\∀b o,s.heap.get? b=some o->h'.get? b=some o)
  (λa r=>?_) λh' tk hr=>h h' tk hr.1 hr.2
 refine codeAny_call_builtin PySem.F.called_set.init.plain PySem.F.entry_set_init (check_set_init_1 r ?_);unfold BT at r ⊢;have C:(s.heap.push {cls:=.type "set",dict:=none,data:=.set #[] 0 (.fresh 0 0 a)}).get? s.heap.objs.size=some {cls:=.type "set",dict:=none,data:=.set #[] 0 (.fresh 0 0 a)}:=KU _ rfl;have hsls:=PySem.F.sub_str_set;have hslf:=PySem.F.sub_str_frozenset;have hne:(Value.type "str" == Value.type "dict")=false:=by decide
 unfold Builtin.«set.__init__» noKeywords Builtin.Frozenset.updateFrom;generalize p:pyIter=PI
 wp_walk
 subst p;refine wpAny_pyIter_str λo St W l=>?_;refine q04 (wpAny_runValue ?_);have m:s.heap.objs.size∉[(s.heap.push {cls:=.type "set",dict:=none,data:=.set #[] 0 (.fresh 0 0 a)}).objs.size]:=by
  rw[Heap.size_push];simp only[KP]
  exact K9 (Ll _)
 refine CQ (knd:=strKind prog w) ((W _ (by simp[hh])).toS) s.heap.objs.size m (dw x) (by simp[dw])
  (λi v ⟨c,u,B,q⟩=>⟨⟨#[c]⟩,by unfold dw;rw[KQ,q0G,B];rfl,by rw[q];exact strKind_is _ _ _ _,by rw[q];rfl⟩) hb (x.cps.size-0) 0 _ ⋯ (Lc _) l ?hS0 ?hR
 case hS0=>
  exact SetOf_congr ((setObjOf_fresh (knd:=strKind prog w) a).setOf (KN _ C) (by unfold scanBound;omega)) (λ_=>rfl) rfl
 case hR=>
  intro y g n;obtain⟨h',D,L,j,k⟩:=y;have I:D=s.gens:=g.gens;have J:L=s.drawn:=g.drawn;have G:k=s.os:=g.os;subst I;subst J;subst G
  show wpAny _ _ _ _ _ _;refine q05 ?_;show wpAny _ _ (ret Value.none) _ _ _;refine q05 ⟨rfl,h',j,rfl,n,λb z e=>?_⟩;have hb:=Le e;refine g.heap b z ?_ (KN _ (KN _ e));simp only[K5,List.not_mem_nil,or_false,not_or,Heap.size_push];exact⟨K9 hb,K9 (Nat.lt_succ_of_lt hb)⟩
end
def sM(t:TE):TE:=λσ H Q=>t σ H λx H1=>∃z,x=.str z/\z.cps.size+1<scanBound/\Q (.int (met (dw z)).length) H1
section
variable {X:Cx}{e:Expr}{t:TE}{p p2 pos pos2:Pos}
theorem zf(hc:X.calm=true)(ha:PE X e t)(g1:Gl X "len")(m1:X.mg "len"=none)(g2:Gl X "set")(m2:X.mg "set"=none)
  (he1:autoParam (starEach [.Call (.Name "set" p2) [e] [] pos2] X.env=[(false,eval (.Call (.Name "set" p2) [e] [] pos2) X.env)]) zz0._auto_1)
  (he2:autoParam (starEach [e] X.env=[(false,eval e X.env)]) zz0._auto_1) :
  PE X (.Call (.Name "len" p) [.Call (.Name "set" p2) [e] [] pos2] [] pos) (sM t):=by
 intro a s σ H Q I h;have m:bootBuiltins "len"=some (.builtin "len"):=by decide +kernel
 have k:bootBuiltins "set"=some (.type "set"):=by decide +kernel
 refine wpAny_Call_Name_kw (fc I g1 m1 m ?_);refine PyProof.Rows.callWith_builtin1 ?_ he1 rfl;rw[he1];show wpAny _ _ (spliced [(false,eval (.Call (.Name "set" p2) [e] [] pos2) X.env)]) _ _ _;refine Calls.spliced_cons ?_;refine wpAny_Call_Name_kw (fc (I.tok _) g2 m2 k ?_);refine PyProof.Rows.callWith_type1 ?_ he2 rfl;rw[he2];show wpAny _ _ (spliced [(false,eval e X.env)]) _ _ _;refine Calls.spliced_cons (ci (ha a _ σ H _ (I.tok _) h) λu s1 ⟨x,H1,y,j,z,w,c,q⟩=>Calls.spliced_nil ?_);subst w;obtain⟨tk,rfl⟩:=j;refine qB (I.ok.hd hc) c λh' tk' v n=>Calls.spliced_nil ?_;obtain⟨o,l,b,es,ep,tb,hd,_,_,g,r⟩:=v.objOf;have hle:=BF z.cps.size (dw z) (by simp[dw]);have hb:z.cps.size<4096:=by unfold scanBound at c;omega
 refine call_len_set l b hd r (by rw[g];have:((4096:Nat):Int)<2^63:=b⁻¹;omega) ?_;rw[g];exact⟨.int _,H1,(y.kept (t':=_) n),⟨_,rfl⟩,q⟩
end
abbrev NT:=List (Str×Addr×List Nat)
def wc(t:NT):List (c_×V):=t.map λx=>(Sum.inr x.1,V.ref x.2.1)
def wj(ns:LO):List V:=ns.map fun(n:Nat)=>V.int (n:Int)
structure dm(H:Hp)(p:Addr)(t:NT):Prop where
 dict:H p=some (.dK (wc t))
 list:∀x∈t,H x.2.1=some (.lst (wj x.2.2))
 apart:(t.map (·.2.1)).Nodup
theorem dm.grow{H':Hp}{t:NT}(N:dm H p t)(k:∀a o,H a=some o->H' a=some o):dm H' p t:=⟨k _ _ N.dict,λx hx=>k _ _ (N.list x hx),N.apart⟩
theorem wE(z:Str):∀t:NT,dS (wc t) (.inr z)=(t.find? λx=>decide (x.1=z)).map λx=>V.ref x.2.1
 | []=>rfl
 |x::t=>by
  have ih:=wE z t;unfold wc at ih ⊢;rw[Lh,List.find?_cons]
  by_cases e:x.1=z
  ·rw[hJ (by rw[e])];simp[e]
  ·rw[g_ (λh=>e (Sum.inr.inj h)),ih];simp[e]
theorem dm.new{t:NT}(N:dm H p t)(hl:H l=none)(hz:dS (wc t) (.inr z)=none) :
  dm (aD (aD H l (.lst [])) p (.dK (dL (wc t) (.inr z) (.ref l)))) p (t++[(z,l,[])]):=by
 have g:p≠l:=λe=>by have:=N.dict;rw[e,hl]at this;exact nomatch this
 have c:∀x∈t,x.2.1≠l/\x.2.1≠p:=λx c=>by
  have q:=N.list x c
  constructor
  ·intro e;rw[e,hl]at q;exact nomatch q
  ·intro e;rw[e,N.dict]at q;exact nomatch q
 refine⟨?_,λx h=>?_,?_⟩
 ·rw[af,AX _ hz];unfold wc;rw[K2];rfl
 ·rcases K3.mp h with h | h
  ·rw[ar (c x h).2,ar (c x h).1];exact N.list x h
  ·rw[KP.mp h,ar (Ne.symm g),af];rfl
 ·rw[K2]
  refine List.nodup_append.mpr ⟨N.apart,by simp,λa k b j=>?_⟩;obtain⟨x,h1,rfl⟩:=Lx.mp k;rw[List.map_singleton]at j;rw[KP.mp j];exact(c x h1).1
theorem dm.put{t:NT}{i k:Nat}{x:Str×Addr×List Nat}(N:dm H p t)(hi:t[i]?=some x) :
  dm (aD H x.2.1 (.lst (wj (x.2.2++[k])))) p (t.set i (x.1,x.2.1,x.2.2++[k])):=by
 have m:x∈t:=KR hi;have l:p≠x.2.1:=λe=>by have:=N.list x m;rw[<- e,N.dict]at this;exact nomatch this
 have a:i<t.length:=(KM.mp hi).1;have n:wc (t.set i (x.1,x.2.1,x.2.2++[k]))=wc t:=by
  unfold wc;apply List.ext_getElem?;intro j;rw[KQ,KQ,List.getElem?_set]
  by_cases e:i=j
  ·subst e;rw[q07 rfl,q07 a,hi];rfl
  ·rw[q06 e]
 have o:(t.set i (x.1,x.2.1,x.2.2++[k])).map (·.2.1)=t.map (·.2.1):=by
  apply List.ext_getElem?;intro j;rw[KQ,KQ,List.getElem?_set]
  by_cases e:i=j
  ·subst e;rw[q07 rfl,q07 a,hi];rfl
  ·rw[q06 e]
 refine⟨by rw[ar l,n];exact N.dict,λy g=>?_,by rw[o];exact N.apart⟩;obtain⟨j,b⟩:=List.mem_iff_getElem?.mp g;rw[List.getElem?_set]at b
 by_cases e:i=j
 ·rw[q07 e,q07 a]at b
  cases b;exact af
 ·rw[q06 e]at b
  have c:y.2.1≠x.2.1:=by
   intro q;have h1:(t.map (·.2.1))[i]?=some x.2.1:=by rw[KQ,hi];rfl
   have h2:(t.map (·.2.1))[j]?=some x.2.1:=by rw[KQ,b];simp[q]
   exact e ((List.getElem?_inj (KM.mp h1).1 N.apart).mp (h1.trans h2.symm))
  rw[ar c];exact N.list y (KR b)
def i7(t:NT):List (Str×List Nat):=t.map λx=>(x.1,x.2.2)
def cr(m:List (Str×List Nat))(z:Str):List (Str×List Nat):=if z∈m.map (·.1) then m else m++[(z,[])]
theorem BR{t:NT}{v:V}(h:dS (wc t) (.inr z)=some v):∃(i:Nat) (x:Str×Addr×List Nat),t[i]?=some x/\x.1=z/\v=.ref x.2.1:=by
 rw[wE]at h;cases a:t.find? (λx=>decide (x.1=z)) with
 |none=>rw[a]at h;exact nomatch h
 |some x=>
  rw[a]at h;have c:V.ref x.2.1=v:=q0S h;obtain⟨i,e⟩:=List.mem_iff_getElem?.mp (List.mem_of_find?_eq_some a);have b:=List.find?_some a;exact⟨i,x,e,of_decide_eq_true b,c.symm⟩
theorem yi(t:NT):(i7 t).map (·.1)=t.map (·.1):=by unfold i7;rw[K4];rfl
theorem EM{t:NT}(h:dS (wc t) (.inr z)=none):¬ z∈(i7 t).map (·.1):=by
 intro m;rw[yi]at m;obtain⟨x,a,e⟩:=Lx.mp m;refine Cs h (Lx.mpr ⟨(.inr x.1,.ref x.2.1),Lx.mpr ⟨x,a,rfl⟩,?_⟩);show(Sum.inr x.1:c_)=Sum.inr z;rw[e]
theorem dm.setdef{t:NT}{z:Str}{Q:VK}(N:dm H p t)(hl:H l=none)(hn:t.length<sizeLine)
  (h:∀(H':Hp) (t':NT) (i:Nat) (x:Str×Addr×List Nat),dm H' p t'->t'[i]?=some x->x.1=z->i7 t'=cr (i7 t) z->(∀y∈t',y∈t\/y.2.1=l)->(∀a o,a≠p->H a=some o->H' a=some o)->Q (.ref x.2.1) H') :
  ∃kvs k,aD H l (.lst []) p=some (.dK kvs)/\V.str z=kV k/\kvs.length<sizeLine/\(∀v,dS kvs k=some v->Q v (aD H l (.lst []))) /\
   (dS kvs k=none->Q (.ref l) (aD (aD H l (.lst [])) p (.dK (dL kvs k (.ref l))))):=by
 have hpl:p≠l:=λe=>by have:=N.dict;rw[e,hl]at this;exact nomatch this
 have b:∀a o,H a=some o->aD H l (.lst []) a=some o:=λa o e=>by
  rw[ar (λq=>by rw[q,hl]at e;exact nomatch e)];exact e
 refine⟨wc t,.inr z,b _ _ N.dict,rfl,by unfold wc;rw[KO];exact hn,λv n=>?_,λg=>?_⟩
 ·obtain⟨i,x,m,j,rfl⟩:=BR n
  refine h _ t i x (N.grow b) m j ?_ (λy c=>.inl c) λa o _ e=>b a o e;have r:z∈(i7 t).map (·.1):=by rw[yi];exact Lx.mpr ⟨x,KR m,j⟩
  unfold cr;rw[q07 r]
 ·refine h _ (t++[(z,l,[])]) t.length (z,l,[]) (N.new hl g) (by simp) rfl ?_ (λy c=>(K3.mp c).imp id λq=>by rw[KP.mp q]) λa o u e=>by rw[ar u];exact b a o e
  unfold cr;rw[q06 (EM g)];unfold i7;rw[K2];rfl
theorem Du{t:NT}{i:Nat}{x:Str×Addr×List Nat}(k:Nat):i7 (t.set i (x.1,x.2.1,x.2.2++[k]))=(i7 t).set i (x.1,x.2.2++[k]):=by
 unfold i7;rw[List.map_set]
theorem lT{m:List (Str×List Nat)}(h:(m.map (·.1)).Nodup):((cr m z).map (·.1)).Nodup:=by
 unfold cr
 by_cases e:z∈m.map (·.1)
 ·rw[q07 e];exact h
 ·rw[q06 e,K2]
  refine List.nodup_append.mpr ⟨h,by simp,λa g b c=>?_⟩;rw[List.map_singleton]at c;rw[KP.mp c];exact λq=>e ((show a=z from q)▸g)
section
variable {X:Cx}{K:LM}{tg:Expr}
theorem DE{a:Expr}{ta:TA}{p pos:Pos}(hK:X.K=K)(hg:Gl X "reversed")(hm:X.mg "reversed"=none)(ha:PA X [a] ta)(hs:autoParam (starEach [a] X.env=[(false,eval a X.env)]) zz0._auto_1):PI X tg (.Call (.Name "reversed" p) [a] [] pos) (C8 K ta):=hK▸uD hg hm ha hs
end
theorem yA{X:Cx}{e:Expr}{t:TA}{x:Str}{j:Nat}{p apos cpos:Pos}(ha:PA X [e] t)(hline:(apos.endLine==cpos.line)=true)(hs:starEach [e] X.env=[(false,eval e X.env)]) :
  PE X (.Call (.Attribute (.Constant (.str x) j p) "join" apos) [e] [] cpos) (Ga X.K "str" (vp X.K) (tC (.str x)) t):=
 cP PySem.F.plainAttrs_str PySem.F.slot_str_join PySem.F.type_str_join D9 pU ha rfl (by rw[hs];rfl) hline hs rfl
theorem FB{X:Cx}{K:LM}{e:Expr}{t:TA}{x:Str}{j:Nat}{p apos cpos:Pos}(hK:X.K=K)(ha:PA X [e] t)(hline:(apos.endLine==cpos.line)=true)(hs:starEach [e] X.env=[(false,eval e X.env)]) :
  PE X (.Call (.Attribute (.Constant (.str x) j p) "join" apos) [e] [] cpos) (Ga K "str" (vp K) (tC (.str x)) t):=hK▸yA ha hline hs
end L2
namespace QL
open PySem PySem.Spec PyProof.Rows
theorem FG:bootBuiltins "max"=some (.builtin "max"):=by decide +kernel
end QL
namespace L2
open PySem PySem.Spec PyProof.Rows QL
section
variable {K:LM}{g:TG}{ti:TT}{te:TE}{σ:St}{H:Hp}{Q:List V->Hp->Prop}{α:Type}
theorem ol{as:List α}{f:α->Option V}{i:Nat}{x:α}(hx:as[i]?=some x):(as.take (i+1)).filterMap f=(as.take i).filterMap f++(f x).toList:=by
 rw[q0E,hx,List.filterMap_append];show _++List.filterMap f [x]=_;cases h:f x<;>simp[h]
theorem Bu{as:List α}{f:α->Option V}(i:Nat):((as.take i).filterMap f).length<=as.length:=Lj (List.length_filterMap_le _ _) (by rw[Lq];omega)
theorem lQ{as:List α}(f:α->V):as.filterMap (λx=>some (f x))=as.map f:=by induction as with | nil=>rfl | cons x xs ih=>simp
theorem oI{as:List α}{emb:α->V}{f:α->Option V}(S:St->Prop)(h0:S σ)(hl:∀H',az H H'->aQ K H' a (as.map emb))(hn:as.length<=1000000)
  (hs:∀(i:Nat) x,as[i]?=some x->∀σ H' (N1:V->St->Hp->Prop) (N0:St->Hp->Prop),S σ->az H H'->(∀v σ2 H2,f x=some v->az H H2->S σ2->N1 v σ2 H2)->(∀σ2 H2,f x=none->az H H2->S σ2->N0 σ2 H2) ->
   g (emb x) σ H' λσ2 H3=>ti σ2 H3 λb H4=>if b=true then te σ2 H4 λv H5=>N1 v σ2 H5 else N0 σ2 H4)
  (he:∀H',az H H'->Q (as.filterMap f) H'):gl (AJ K a) g ti te σ H Q:=by
 refine eC (xs:=as.map emb) (λi c σ H'=>az H H'/\c=(as.take i).filterMap f/\i<=as.length/\S σ) ⟨λ_ _ e=>e,rfl,Lc _,h0⟩ ?_ ?_ ?_ ?_ ?_
 ·rintro i c σ H' ⟨_,rfl,_⟩
  have:=Bu (as:=as) (f:=f) i;exact bc ⋯
 ·rintro i c σ H' ⟨_,_,h,_⟩
  rw[KO];exact h
 ·rintro i c σ H' ⟨k,_⟩
  exact hl _ k
 ·rintro i x c σ H' l ⟨k,rfl,hi,n⟩
  have j:i<as.length:=by have:=(KM.mp l).1;rwa [KO]at this
  rw[KQ,KL j]at l;cases l;have m:as[i]?=some as[i]:=KL j;refine hs i as[i] m σ H' (λv σ2 H5=>_) (λσ2 H4=>_) n k (λv σ2 H2 hf s2 hS2=>⟨s2,?_,j,hS2⟩) (λσ2 H2 hf s2 hS2=>⟨s2,?_,j,hS2⟩)
  ·rw[ol m,hf];rfl
  ·rw[ol m,hf];simp
 ·rintro c σ H' ⟨k,rfl,_⟩
  have e:(as.take (as.map emb).length).filterMap f=as.filterMap f:=by rw[KO,Lp]
  rw[e];exact he _ k
theorem wu{as:List α}{emb:α->V}{f:Nat->α->Option V}(S:St->Prop)(h0:S σ)(hl:∀H',az H H'->aQ K H' a (as.map emb))(hn:as.length<=1000000)
  (hs:∀(i:Nat) x,as[i]?=some x->∀σ H' T (N1:V->St->Hp->Prop) (N0:St->Hp->Prop),S σ->az H H'->H' T=none->(∀v σ2 H2,f i x=some v->az H H2->S σ2->N1 v σ2 H2)->(∀σ2 H2,f i x=none->az H H2->S σ2->N0 σ2 H2) ->
   g (.ref T) σ (aD H' T (.tup [.int (i:Int),emb x])) λσ2 H3=>ti σ2 H3 λb H4=>if b=true then te σ2 H4 λv H5=>N1 v σ2 H5 else N0 σ2 H4)
  (he:∀H',az H H'->Q (as.zipIdx.filterMap λx=>f x.2 x.1) H'):gl (GI K a) g ti te σ H Q:=by
 have m:as.zipIdx.length=as.length:=List.length_zipIdx;refine jP (J:=GI K a) (n:=as.length) (λi c σ H'=>az H H'/\c=(as.zipIdx.take i).filterMap (λx=>f x.2 x.1)/\i<=as.length/\S σ) ⟨λ_ _ e=>e,rfl,Lc _,h0⟩ ?_ ?_ ?_ ?_ ?_ ?_
 ·rintro i c σ H' ⟨_,rfl,_⟩
  have:=Bu (as:=as.zipIdx) (f:=λx=>f x.2 x.1) i;exact bc ⋯
 ·rintro i c σ H' ⟨_,_,h,_⟩
  exact h
 ·rintro c σ H' ⟨k,_⟩
  exact⟨_,hl _ k,by rw[KO];exact Lb _⟩
 ·rintro i c σ H' j ⟨k,_⟩
  exact⟨_,emb as[i],hl _ k,by rw[KQ,KL j];rfl⟩
 ·rintro i x c σ H' H2 j ⟨k,rfl,hi,r⟩ ⟨T,y,rfl,q,rfl,l⟩
  have o:as[i]?=some as[i]:=KL j;have l:=l _ (hl _ k);rw[KQ,o]at l;cases l;have p:as.zipIdx[i]?=some (as[i],i):=by rw[List.getElem?_zipIdx,o];simp
  refine hs i as[i] o σ H' T (λv σ2 H5=>_) (λσ2 H4=>_) r k q (λv σ2 H2 hf s2 hS2=>⟨s2,?_,j,hS2⟩) (λσ2 H2 hf s2 hS2=>⟨s2,?_,j,hS2⟩)
  ·rw[ol p];simp only[hf];rfl
  ·rw[ol p];simp[hf]
 ·rintro c σ H' ⟨k,rfl,_⟩
  have e:(as.zipIdx.take as.length).filterMap (λx=>f x.2 x.1)=as.zipIdx.filterMap (λx=>f x.2 x.1):=by rw[<- m,Lp]
  rw[e];exact he _ k
theorem gc{n:Nat}{f:Nat->Option V}(S:St->Prop)(h0:S σ)(hn:n<=1000000)
  (hs:∀i,i<n->∀σ H' (N1:V->St->Hp->Prop) (N0:St->Hp->Prop),S σ->az H H'->(∀v σ2 H2,f i=some v->az H H2->S σ2->N1 v σ2 H2)->(∀σ2 H2,f i=none->az H H2->S σ2->N0 σ2 H2) ->
   g (.int (0+(i:Int))) σ H' λσ2 H3=>ti σ2 H3 λb H4=>if b=true then te σ2 H4 λv H5=>N1 v σ2 H5 else N0 σ2 H4)
  (he:∀H',az H H'->Q ((List.range n).filterMap f) H'):gl (zq 0 n) g ti te σ H Q:=by
 refine pR (lo:=0) (n:=n) (λi a σ H'=>az H H'/\a=(List.range i).filterMap f/\i<=n/\S σ) ⟨λ_ _ e=>e,rfl,Lc _,h0⟩ ?_ ?_ ?_ ?_
 ·rintro i a σ H' ⟨_,rfl,c,_⟩
  have:=List.length_filterMap_le f (List.range i);rw[q0J]at this;exact bc ⋯
 ·rintro i a σ H' ⟨_,_,h,_⟩
  exact h
 ·rintro i a σ H' c ⟨j,rfl,_,k⟩
  refine hs i c σ H' (λv σ2 H5=>_) (λσ2 H4=>_) k j (λv σ2 H2 hf s2 hS2=>⟨s2,?_,c,hS2⟩) (λσ2 H2 hf s2 hS2=>⟨s2,?_,c,hS2⟩)
  ·rw[q0M,List.filterMap_append];simp[hf]
  ·rw[q0M,List.filterMap_append];simp[hf]
 ·rintro a σ H' ⟨j,rfl,_⟩
  exact he _ j
end
end L2
namespace ThM
open PySem L2
def addNew(ks:LW)(z:Str):List Str:=if z∈ks then ks else ks++[z]
theorem mem_addNew{ks:LW}{y:Str}:y∈addNew ks z↔y∈ks\/y=z:=by
 unfold addNew
 split
 ·rename_i h
  exact⟨.inl,λq=>q.elim id λe=>e▸h⟩
 ·rw[K3,KP]
def trueD(zs:LW):List (c_×V):=zs.map λz=>(Sum.inr z,V.bl true)
theorem trueD_val(z:Str):∀zs:List Str,(dS (trueD zs) (.inr z)).isSome=decide (z∈zs)
 | []=>rfl
 |y::zs=>by
  have ih:=trueD_val z zs;unfold trueD at ih ⊢;rw[Lh]
  by_cases e:y=z
  ·rw[hJ (by rw[e])]
   simp[e]
  ·rw[g_ (λq=>e (Sum.inr.inj q)),ih]
   have:¬ z=y:=λq=>e q.symm;simp[this]
theorem trueD_put(zs:LW)(z:Str):dL (trueD zs) (.inr z) (V.bl true)=trueD (addNew zs z):=by
 unfold dL;rw[hX,trueD_val];unfold addNew
 by_cases h:z∈zs
 ·rw[q09 h,q07 rfl,q07 h]
  unfold trueD;rw[K4];refine q0K λy _=>?_;show(if(Sum.inr y:c_)=Sum.inr z then _ else _)=_
  split<;>rfl
 ·rw[q08 h,q06 b⁻¹,q06 h]
  unfold trueD;rw[K2];rfl
theorem trueD_len(zs:LW):(trueD zs).length=zs.length:=by unfold trueD;rw[KO]
section
variable {α:Type}(f:List α->List α)
def Hw:Nat->List α->List α
 |0,s=>s
 |n+1,s=>f (Hw n s)
variable {f}
end
abbrev NR:=Str×List Str
def C7(ks:LW)(r:NR):List Str:=if(∀z∈r.2,z∈ks) then addNew ks r.1 else ks
def AW(rs:List NR)(ks:LW):List Str:=rs.foldl C7 ks
theorem nd_len{ks ms:LW}(hn:ks.Nodup)(h:∀z∈ks,z∈ms):ks.length<=ms.length:=by
 induction ks generalizing ms with
 |nil=>exact Lc _
 |cons k ks ih=>
  rw[List.nodup_cons]at hn;have c:=h k q0B;have h1:=ih (ms:=ms.erase k) hn.2 λz b=>by
   have a:z≠k:=λe=>hn.1 (e▸b);exact(List.mem_erase_of_ne a).mpr (h z (K6 _ b))
  have h2:=List.length_erase_of_mem c;have h3:=List.length_pos_of_mem c;rw[K1];omega
def Fg(rs:List NR):List Str:=Hw (AW rs) rs.length []
end ThM
namespace ThM
open PySem L2
theorem lH{y:Str}:∀(zs ks:LW),y∈zs.foldl addNew ks↔y∈ks\/y∈zs
 | [],ks=>by simp
 |z::zs,ks=>by
  rw[List.foldl_cons,lH zs,mem_addNew,K5];exact⟨λh=>h.elim (λh=>h.elim .inl λe=>.inr (.inl e)) λh=>.inr (.inr h),λh=>h.elim (λh=>.inl (.inl h)) λh=>h.elim (λe=>.inl (.inr e)) .inr⟩
def A1(ks:LW)(r:NR):List Str:=if r.1∈ks then r.2.foldl addNew ks else ks
def y_(rs:List NR)(ks:LW):List Str:=rs.foldl A1 ks
def GE(ks:LW)(r:NR):Prop:=r.1∈ks/\∀z∈r.2,z∈ks
noncomputable instance (ks:LW)(r:NR):Decidable (GE ks r):=by unfold GE;infer_instance
def FF(st:Str)(rs:List NR):List Str:=Hw (y_ rs) rs.length [st]
def Eh(rs:List NR)(r:NR):Bool:=decide (∀z∈r.2,z∈Fg rs)
def HI(rs:List NR):List NR:=rs.filter (Eh rs)
def He(st:Str)(rs:List NR):List Str:=FF st (HI rs)
def keep(st:Str)(rs:List NR)(r:NR):Bool:=decide (r.1∈He st rs)&&Eh rs r
end ThM
namespace L2
open PySem PySem.Spec PyProof.Rows
section
variable {X:Cx}{body:List Stmt}{h₀:ExceptHandler}{hs:List ExceptHandler}{tb:TS}{pos:Pos}
theorem om{ta:TE}{f:Str}{K:LM}(hK:X.K=K)(he:PE X e ta)(hb:attributeBase e f X.env (eval e X.env)=eval e X.env):PE X (.Attribute e f pos) (D0 K ta f):=hK▸cq he hb
end
section
variable {X:Cx}{es:L3}{t:TA}{te:TE}
end
end L2
namespace L2
open PySem PySem.Spec PyProof.Rows
end L2
namespace L2
open PySem PySem.Spec PyProof.Rows QL
section
variable {X:Cx}
theorem cQ.units210{k:Nat}{A:LX}(r:cQ (k+1) A):A.units+210<cLine:=by have:=r.un;omega
end
section
variable {K:LM}{g:TG}{tb:TS}{D:gO}{σ:St}{H:Hp}
theorem vH{xs:List V}(Pv:Nat->St->Hp->Prop)(h0:Pv 0 σ H)(hl:∀i σ H,i<=xs.length->Pv i σ H->aQ K H a xs)
  (hs:∀i x σ H,i<xs.length->xs[xs.length-1-i]?=some x->Pv i σ H->g x σ H λσ2 H2=>tb {D with nx:=Pv (i+1),ct:=Pv (i+1),bk:=D.nx} σ2 H2) (hd:∀σ H,Pv xs.length σ H->D.nx σ H):Aj (GC K a xs.length) g tb D σ H:=by
 refine⟨λi m σ H=>Pv i σ H/\i<=xs.length/\m=xs.length+1-i,⟨_,h0,Lc _,rfl⟩,?_⟩;rintro i m σ' H' ⟨w,c,rfl⟩;rcases Nat.lt_or_ge i xs.length with b | hge
 ·refine .inr ⟨⟨xs,xs[xs.length-1-i]'⋯,hl _ _ _ c w,b,KL ⋯⟩,Pv (i+1),λσ2 H2 w2=>⟨xs.length+1-(i+1),⋯,w2,b,rfl⟩,λx H2 y=>?_⟩
  obtain⟨rfl,j⟩:=y;exact hs i x σ' H2 b (j xs (hl _ _ _ c w)) w
 ·have e:i=xs.length:=by omega
  subst e;exact .inl ⟨rfl,hd _ _ w⟩
end
def dy(H H':Hp):Prop:=∀b xs,H b=some (.tup xs)->H' b=some (.tup xs)
theorem dy.of(s:az H H'):dy H H':=λb xs h=>s b _ h
theorem dy.trans{H1 H2:Hp}(a:dy H H1)(b:dy H1 H2):dy H H2:=λc xs h=>b c xs (a c xs h)
theorem dy.put{H:Hp}(h:H l=some (.lst xs)):dy H (aD H l o):=λb ys hb=>by
 rw[ar (λe=>by rw[e,h]at hb;cases hb)];exact hb
mutual
def dt(H:Hp):Dt->V->Prop
 | .int i,v=>v=.int i
 | .tup ds,v=>∃a xs,v=.ref a/\H a=some (.tup xs)/\bM H ds xs
 |_,_=>False
def bM(H:Hp):List Dt->List V->Prop
 | [],xs=>xs=[]
 |d::ds,xs=>∃x r,xs=x::r/\dt H d x/\bM H ds r
end
mutual
theorem dt.up(e:dy H H'):∀(d:Dt) {v:V},dt H d v->dt H' d v
 | .int i,v,h=>by unfold dt at h ⊢;exact h
 | .tup ds,v,h=>by unfold dt at h ⊢;obtain⟨a,xs,r,hs,hd⟩:=h;exact⟨a,xs,r,e _ _ hs,bM.up e ds hd⟩
 | .non,v,h=>by unfold dt at h;exact h.elim
 | .bl b,v,h=>by unfold dt at h;exact h.elim
 | .str x,v,h=>by unfold dt at h;exact h.elim
 | .lst ds,v,h=>by unfold dt at h;exact h.elim
theorem bM.up(e:dy H H'):∀(ds:List Dt) {xs:List V},bM H ds xs->bM H' ds xs
 | [],xs,h=>by unfold bM at h ⊢;exact h
 |d::ds,xs,h=>by unfold bM at h ⊢;obtain⟨x,r,e0,h1,h2⟩:=h;exact⟨x,r,e0,dt.up e d h1,bM.up e ds h2⟩
end
mutual
theorem dt.rd{K:LM}:∀(d:Dt) {v:V},dt H d v->iP K H d v
 | .int i,v,h=>by unfold dt at h;unfold iP;exact h
 | .tup ds,v,h=>by unfold dt at h;unfold iP;obtain⟨a,xs,r,hs,hd⟩:=h;exact⟨a,xs,r,cR.of hs,bM.rd ds hd⟩
 | .non,v,h=>by unfold dt at h;exact h.elim
 | .bl b,v,h=>by unfold dt at h;exact h.elim
 | .str x,v,h=>by unfold dt at h;exact h.elim
 | .lst ds,v,h=>by unfold dt at h;exact h.elim
theorem bM.rd{K:LM}:∀(ds:List Dt) {xs:List V},bM H ds xs->dB K H ds xs
 | [],xs,h=>by unfold bM at h;unfold dB;exact h
 |d::ds,xs,h=>by unfold bM at h;unfold dB;obtain⟨x,r,e0,h1,h2⟩:=h;exact⟨x,r,e0,dt.rd d h1,bM.rd ds h2⟩
end
theorem bM.cons{H:Hp}{d:Dt}{ds:List Dt}{x:V}{xs:List V}(h:dt H d x)(t:bM H ds xs):bM H (d::ds) (x::xs):=by unfold bM;exact⟨x,xs,rfl,h,t⟩
theorem bM.nil:bM H [] []:=by unfold bM;rfl
theorem bM.uncons{d:Dt}{ds:List Dt}{xs:List V}(h:bM H (d::ds) xs):∃x r,xs=x::r/\dt H d x/\bM H ds r:=by unfold bM at h;exact h
theorem bM.length:∀{ds:List Dt} {xs:List V},bM H ds xs->xs.length=ds.length
 | [],_,h=>by unfold bM at h;rw[h];rfl
 |d::ds,xs,h=>by
  obtain⟨x,r,rfl,_,h2⟩:=h.uncons;simp[bM.length h2]
theorem bM.app:∀{ds es:List Dt} {xs ys:List V},bM H ds xs->bM H es ys->bM H (ds++es) (xs++ys)
 | [],es,xs,ys,h,k=>by unfold bM at h;subst h;exact k
 |d::ds,es,xs,ys,h,k=>by
  obtain⟨x,r,rfl,h1,h2⟩:=h.uncons;exact bM.cons h1 (bM.app h2 k)
theorem dt.node{H:Hp}{i:Int}{ds:List Dt}{xs:List V}(h:H a=some (.tup (V.int i::xs)))(t:bM H ds xs):dt H (.tup (.int i::ds)) (.ref a):=by
 unfold dt;exact⟨a,_,rfl,h,bM.cons (by unfold dt;rfl) t⟩
def cV(np:Nat->Nat):List Nat->List Dt
 | []=>[]
 |n::ns=>.tup (.int (n:Int)::(cV np ns).take (np n))::(cV np ns).drop (np n)
def uF(np:Nat->Nat):List Nat->Prop
 | []=>True
 |n::ns=>uF np ns/\np n<=(cV np ns).length
theorem CD{np:Nat->Nat}{n:Nat}{ns:LO}:(cV np (n::ns)).length=(cV np ns).length-np n+1:=by
 rw[cV,K1,Lr]
end L2
namespace L2
open PySem PySem.Spec PyProof.Rows QL aL
theorem Ht{P:Addr->Prop}:(∃p,V.ref a=V.ref p/\P p)=P a:=by simp
theorem HA{a:Int}{P:Int->Prop}:(∃p,V.int a=V.int p/\P p)=P a:=by simp
theorem HP{P:Bool->Prop}:(∃p,V.bl a=V.bl p/\P p)=P a:=by simp
theorem Hr{P:Str->Prop}:(∃p,V.str a=V.str p/\P p)=P a:=by simp
theorem Hz{α:Type}{P:Addr->α->Prop}:(∃p,∃x,V.ref a=V.ref p/\P p x) = ∃x,P a x:=by simp
theorem Hl{α:Type}{P:Addr->α->Prop}:(∃p,∃x,[V.ref a]=[V.ref p]/\P p x) = ∃x,P a x:=by simp
theorem HL{α:Type}{v:V}{P:Addr->α->V->Prop}:(∃p,∃x,∃y,V.ref a=V.ref p/\[v]=[y]/\P p x y) = ∃x,P a x v:=by simp
theorem HE{α β:Type}{P:Addr->Addr->α->β->Prop}:(∃p,∃q,∃x,∃y,V.ref a=V.ref p/\V.ref b=V.ref q/\P p q x y) = ∃x,∃y,P a b x y:=by simp
def F5(i:Nat):TE:=λσ H Q=>match σ[i]? with
 |some (some v)=>Q v H
 |_=>False
def Cl(g:Int->Int->V):R2
 | .int i,.int j,H,Q=>Q (g i j) H
 |x,y,H,Q=>zd g x y H Q
def G_(C:Int->Int->Prop)(g:Int->Int->V):R2
 | .int i,.int j,H,Q=>C i j/\Q (g i j) H
 |x,y,H,Q=>rI C g x y H Q
def yH(K:LM):R2
 | .ref p,.int i,H,Q=>∃xs,aQ K H p xs/\∃v,i6 xs i=some v/\Q v H
 |x,y,H,Q=>AN K x y H Q
def yM(K:LM):R2
 | .ref p,.int i,H,Q=>∃xs,cR K H p xs/\∃v,i6 xs i=some v/\Q v H
 |x,y,H,Q=>Bc K x y H Q
theorem CL:Cl g x y H Q=zd g x y H Q:=by
 unfold Cl;split
 ·simp[zd]
 ·rfl
theorem EB:G_ C g x y H Q=rI C g x y H Q:=by
 unfold G_;split
 ·simp[rI]
 ·rfl
theorem yy{K:LM}:yH K x y H Q=AN K x y H Q:=by
 unfold yH;split
 ·simp[AN]
 ·rfl
theorem yL{K:LM}:yM K x y H Q=Bc K x y H Q:=by
 unfold yM;split
 ·simp[Bc]
 ·rfl
theorem Dc{i j:Int}{H:Hp}:Cl g (.int i) (.int j) H Q=Q (g i j) H:=rfl
theorem Fw{i j:Int}{H:Hp}:G_ C g (.int i) (.int j) H Q=(C i j/\Q (g i j) H):=rfl
theorem BC{K:LM}{i:Int}{H:Hp}:yH K (.ref p) (.int i) H Q = ∃xs,aQ K H p xs/\∃v,i6 xs i=some v/\Q v H:=rfl
theorem BZ{K:LM}{i:Int}{H:Hp}:yM K (.ref p) (.int i) H Q = ∃xs,cR K H p xs/\∃v,i6 xs i=some v/\Q v H:=rfl
theorem Kk{α β:Type}{f:α->β}{a:α}{l:List α}:List.map f (a::l)=f a::List.map f l:=rfl
theorem IE{α β:Type}{f:α->β}:List.map f []=[]:=rfl
theorem Ko{α:Type}{a:α}{l m:List α}:(a::l)++m=a::(l++m):=rfl
theorem J5{α:Type}{m:List α}:[]++m=m:=rfl
theorem IQ{α:Type}{a:α}{l:List α}:(a::l)[0]?=some a:=rfl
theorem IR{α:Type}{a:α}{l:List α}{n:Nat}:(a::l)[n+1]?=l[n]?:=rfl
theorem J4{α:Type}{a b:α}{l:List α}:(a::l).set 0 b=b::l:=rfl
theorem Je{α:Type}{a b:α}{l:List α}{n:Nat}:(a::l).set (n+1) b=a::l.set n b:=rfl
section
variable {X:Cx}
theorem al(i:Nat){x:Str}{pos:Pos}(hN:autoParam (X.N[i]?=some x) zz0._auto_1)(hv:autoParam (GX X.env.scope x) zz6._auto_1)(hd:autoParam g⁻¹ zz1._auto_1)
  (hc:autoParam ((x==("__classdict__":Str))=false) zz1._auto_1):PE X (.Name x pos) (F5 i):=λpins s σ H Q I h=>pv i hN hv hd hc pins s σ H Q I (by
 unfold F5 at h
 split at h
 ·exact⟨_,‹_›,h⟩
 ·exact h.elim)
theorem bC.m0{f:Value->Value->Sem Value}(h:bC X f (zd g)):bC X f (Cl g):=λpins s σ H x y v u Q I a b c=>h pins s σ H x y v u Q I a b (CL▸c)
theorem bC.m1{f:Value->Value->Sem Value}(h:bC X f (rI C g)):bC X f (G_ C g):=λpins s σ H x y v u Q I a b c=>h pins s σ H x y v u Q I a b (EB▸c)
theorem aX:FZ X (yH X.K):=λe sl pins s σ H x y v u Q I a b c d=>yc e sl pins s σ H x y v u Q I a b (yy▸c) d
theorem aU:FZ X (yM X.K):=λe sl pins s σ H x y v u Q I a b c d=>EN e sl pins s σ H x y v u Q I a b (yL▸c) d
end
inductive TrD:Dt->Prop
 |mk (i:Int) (ds:List Dt):(∀d∈ds,TrD d)->TrD (.tup (.int i::ds))
section
variable {β:Type}{A:Hp->Addr->β->Prop}
def bp(A:Hp->Addr->β->Prop)(H:Hp)(bs:LR)(ys:List β):Prop:=bs.length=ys.length/\∀(i:Nat) b y,bs[i]?=some b->ys[i]?=some y->A H b y
def lu(A:Hp->Addr->β->Prop)(H:Hp)(l:Addr)(ys:List β):Prop:=∃bs:List Addr,H l=some (.lst (bs.map V.ref))/\bp A H bs ys
theorem bp.nil:bp A H [] []:=⟨rfl,λi b y e=>by simp at e⟩
theorem bp.mono{A':Hp->Addr->β->Prop}{bs:LR}{ys:List β}(h:bp A H bs ys)(u:∀b y,b∈bs->y∈ys->A H b y->A' H' b y):bp A' H' bs ys:=⟨h.1,λi b y e1 e2=>u b y (KR e1) (KR e2) (h.2 i b y e1 e2)⟩
theorem bp.snoc{bs:LR}{ys:List β}{y:β}(h:bp A H bs ys)(e:A H b y):bp A H (bs++[b]) (ys++[y]):=by
 refine⟨by rw[La,La,h.1];rfl,λi c z a g=>?_⟩
 by_cases j:i<bs.length
 ·rw[K' j]at a
  rw[K' (by rw[<- h.1];exact j)]at g;exact h.2 i c z a g
 ·have lU:i=bs.length:=by
   have:=(KM.mp a).1;simp at this;omega
  subst lU;rw[K_ (Lb _),Nat.sub_self]at a;rw[h.1,K_ (Lb _),Nat.sub_self]at g;cases a;cases g
  exact e
theorem bp.get{bs:LR}{ys:List β}{i:Nat}{b:Addr}(h:bp A H bs ys)(e:bs[i]?=some b):∃y,ys[i]?=some y/\A H b y:=by
 have c:=(KM.mp e).1;have a:ys[i]?=some (ys[i]'(by rw[<- h.1];exact c)):=KL _;exact⟨_,a,h.2 i b _ e a⟩
theorem bp.one{H:Hp}{b:Addr}{y:β}(e:A H b y):bp A H [b] [y]:=bp.nil.snoc e
theorem bp.two{H:Hp}{b c:Addr}{y z:β}(e:A H b y)(e2:A H c z):bp A H [b,c] [y,z]:=(bp.one e).snoc e2
theorem bp.zip{bs:LR}{ys:List β}(h:bp A H bs ys):bs.map V.ref=(bs.zip ys).map λx=>V.ref x.1:=by
 have e:=K4 (f:=Prod.fst) (g:=V.ref) (l:=bs.zip ys);rw[List.map_fst_zip (by rw[h.1];exact Lb _)]at e;exact e
theorem bp.at{bs:LR}{ys:List β}(h:bp A H bs ys){i:Nat}{x:Addr×β}(e:(bs.zip ys)[i]?=some x):ys[i]?=some x.2/\A H x.1 x.2:=by
 obtain⟨b,y⟩:=x;obtain⟨c,a⟩:=List.getElem?_zip_eq_some.mp e;exact⟨a,h.2 i b y c a⟩
end
section
variable {K:LM}{g:TG}{ti:TT}{te:TE}{σ:St}{H:Hp}{Q:List V->Hp->Prop}{α β:Type}
theorem oM(A:Hp->Addr->β->Prop)(up:∀{H H':Hp} {b:Addr} {y:β},A H b y->az H H'->A H' b y){a:Addr}{as:List α}{emb:α->V}{ys:List β}(hlen:as.length=ys.length)(S:St->Prop)(h0:S σ)(hl:∀H',az H H'->aQ K H' a (as.map emb))(hn:as.length<=1000000)
  (hs:∀(i:Nat) x y,as[i]?=some x->ys[i]?=some y->∀σ H' (N1:V->St->Hp->Prop) (N0:St->Hp->Prop),S σ->az H H'->(∀b σ2 H2,A H2 b y->az H H2->az H' H2->S σ2->N1 (.ref b) σ2 H2) ->
   g (emb x) σ H' λσ2 H3=>ti σ2 H3 λb H4=>if b=true then te σ2 H4 λv H5=>N1 v σ2 H5 else N0 σ2 H4)
  (he:∀bs H',az H H'->bp A H' bs ys->Q (bs.map V.ref) H'):gl (AJ K a) g ti te σ H Q:=by
 refine eC (xs:=as.map emb) (λi c σ H'=>az H H'/\(∃bs:List Addr,c=bs.map V.ref/\bp A H' bs (ys.take i))/\i<=as.length/\S σ) ⟨λ_ _ e=>e,⟨[],rfl,bp.nil⟩,Lc _,h0⟩ ?_ ?_ ?_ ?_ ?_
 ·rintro i c σ H' ⟨_,⟨bs,rfl,h⟩,_⟩
  have:=h.1;rw[Lq]at this;rw[KO];exact bc ⋯
 ·rintro i c σ H' ⟨_,_,h,_⟩
  rw[KO];exact h
 ·rintro i c σ H' ⟨k,_⟩
  exact hl _ k
 ·rintro i x c σ H' m ⟨k,⟨bs,rfl,l⟩,hi,o⟩
  have j:i<as.length:=by have:=(KM.mp m).1;rwa [KO]at this
  rw[KQ,KL j]at m;cases m;have n:ys[i]?=some (ys[i]'⋯):=KL ⋯;refine hs i as[i] _ (KL j) n σ H' (λv σ2 H5=>_) (λσ2 H4=>_) o k (λb σ2 H2 hA s2 s3 hS2=>⟨s2,⟨bs++[b],by rw[K2];rfl,?_⟩,j,hS2⟩)
  ·rw[q0E,n]
   exact(l.mono λb y _ _ h=>up h s3).snoc hA
 ·rintro c σ H' ⟨k,⟨bs,rfl,l⟩,_⟩
  have e:ys.take (as.map emb).length=ys:=by rw[KO,hlen,Lp]
  rw[e]at l;exact he _ _ k l
end
end L2
namespace L2
open PySem PySem.Spec PyProof.Rows QL PySem.Builtin
section
variable {X:Cx}
def wC(z:Str):Value->Bool
 | .str y _=>y.cps.toList==z.cps.toList
 |_=>false
theorem DT{t:Tok}(h:wC z (.str y t)=true):y=z:=by
 have h1:y.cps.toList=z.cps.toList:=by simpa[wC]using h
 cases y;cases z
 simp only[Str.mk.injEq];exact Array.toList_inj.mp h1
def sT:V->List V->Hp->VK->Prop:=λx vs H Q=>∃(l:Addr) (ts:LW) (z:Str) (j:Nat),x=.ref l/\vs=[.str z]/\H l=some (.lst (ts.map V.str))/\ts[j]?=some z/\(∀m y,m<j->ts[m]?=some y->y≠z)/\Q (.int (j:Int)) H
theorem Al:Gx X "list.index" sT:=by
 intro pins s σ H x vs v us Q I rx rv h;obtain⟨l,c,z,j,rfl,rfl,L,J,C,q⟩:=h;cases rx;obtain⟨u,rfl,O⟩:=rv.one;obtain⟨t,rfl⟩:=O;obtain⟨M,b,n,r,T,e⟩:=I.lstM L;have hjl:j<c.length:=(KM.mp J).1;have o:∀(m:Nat) y,c[m]?=some y->∃g,b[m]?=some (.str y g):=by
  intro m y B;obtain⟨w,S,p⟩:=r.get (i:=m) (x:=.str y) (by rw[KQ,B];rfl);obtain⟨g,rfl⟩:=p;exact⟨g,S⟩
 have hll:b.length=c.length:=by rw[<- T,KO]
 have hsl:=I.lstM L;have R:b.length<=sizeLine:=by
  have:=M;omega
 rw[q0W]at R;refine call_meets F.slot_list_index ⟨_,e,rfl⟩ F.entry_list_index (F.args_list_index_2 _ _)
  (MeetsSeq.list_index l b.toArray n (.str z t) (wC z) (λy B=>?_) j (by rw[KW];omega) ⋯ ?_ ?_) ⟨e,?_⟩
 ·obtain⟨m,D,Y⟩:=List.getElem_of_mem (by simpa using B)
  obtain⟨g,a⟩:=o m (c[m]'⋯) (KL _);rw[KL D,Y]at a
  injection a with a
  subst a;exact PySem.SeqRoads2.EqGives.str _ _ _ _
 ·obtain⟨g,a⟩:=o j z J
  rw[KL ⋯]at a
  injection a with a
  show wC z b[j]=true;rw[a];simp[wC]
 ·intro m D G
  have k:m<c.length:=by rw[KW]at D;omega
  obtain⟨g,a⟩:=o m (c[m]'k) (KL _);rw[KL ⋯]at a
  injection a with a
  show wC z b[m]=false;rw[a];cases U:wC z (.str (c[m]'k) g) with
  |false=>rfl
  |true=>exact q0Q (DT U) (C m _ G (KL k))
 ·exact⟨.int _,H,I.tok _,⟨_,rfl⟩,q⟩
end
section
variable {K:LM}{g:TG}{ti:TT}{te:TE}{σ:St}{H:Hp}{Q:List V->Hp->Prop}{α β:Type}
theorem vB{as:List α}{f:α->Option β}{i:Nat}{x:α}(hx:as[i]?=some x):(as.take (i+1)).filterMap f=(as.take i).filterMap f++(f x).toList:=by
 rw[q0E,hx,List.filterMap_append];show _++List.filterMap f [x]=_;cases h:f x<;>simp[h]
theorem m6(A:Hp->Addr->β->Prop)(up:∀{H H':Hp} {b:Addr} {y:β},A H b y->az H H'->A H' b y){a:Addr}{as:List α}{emb:α->V}{f:α->Option β}(S:St->Prop)(h0:S σ)(hl:∀H',az H H'->aQ K H' a (as.map emb))(hn:as.length<=1000000)
  (hs:∀(i:Nat) x,as[i]?=some x->∀σ H' (N1:V->St->Hp->Prop) (N0:St->Hp->Prop),S σ->az H H'->(∀b y σ2 H2,f x=some y->A H2 b y->az H H2->az H' H2->S σ2->N1 (.ref b) σ2 H2)->(∀σ2 H2,f x=none->az H H2->az H' H2->S σ2->N0 σ2 H2) ->
   g (emb x) σ H' λσ2 H3=>ti σ2 H3 λb H4=>if b=true then te σ2 H4 λv H5=>N1 v σ2 H5 else N0 σ2 H4)
  (he:∀bs H',az H H'->bp A H' bs (as.filterMap f)->Q (bs.map V.ref) H'):gl (AJ K a) g ti te σ H Q:=by
 refine eC (xs:=as.map emb) (λi c σ H'=>az H H'/\(∃bs:List Addr,c=bs.map V.ref/\bp A H' bs ((as.take i).filterMap f))/\i<=as.length/\S σ) ⟨λ_ _ e=>e,⟨[],rfl,bp.nil⟩,Lc _,h0⟩ ?_ ?_ ?_ ?_ ?_
 ·rintro i c σ H' ⟨_,⟨bs,rfl,h⟩,_⟩
  have:=h.1;have h2:=List.length_filterMap_le f (as.take i);rw[Lq]at h2;rw[KO];exact bc ⋯
 ·rintro i c σ H' ⟨_,_,h,_⟩
  rw[KO];exact h
 ·rintro i c σ H' ⟨k,_⟩
  exact hl _ k
 ·rintro i x c σ H' m ⟨k,⟨bs,rfl,l⟩,hi,o⟩
  have j:i<as.length:=by have:=(KM.mp m).1;rwa [KO]at this
  rw[KQ,KL j]at m;cases m;have n:as[i]?=some as[i]:=KL j;refine hs i as[i] n σ H' (λv σ2 H5=>_) (λσ2 H4=>_) o k (λb y σ2 H2 hf hA s2 s3 hS2=>⟨s2,⟨bs++[b],by rw[K2];rfl,?_⟩,j,hS2⟩) (λσ2 H2 hf s2 s3 hS2=>⟨s2,⟨bs,rfl,?_⟩,j,hS2⟩)
  ·rw[vB n,hf]
   exact(l.mono λb y _ _ h=>up h s3).snoc hA
  ·rw[vB n,hf]
   show bp A H2 bs (_++[]);rw[Lm];exact l.mono λb y _ _ h=>up h s3
 ·rintro c σ H' ⟨k,⟨bs,rfl,l⟩,_⟩
  have e:(as.take (as.map emb).length).filterMap f=as.filterMap f:=by rw[KO,Lp]
  rw[e]at l;exact he _ _ k l
end
end L2
namespace L2
open PySem PySem.Spec PyProof.Rows QL PySem.Builtin PySem.Builtin.Str
section
variable {X:Cx}
def Cr:R2:=λx y H Q=>∃(r:LO) (n:Nat),x=.str (tx r)/\y=.int (n:Int)/\1<=n/\n<=1000/\r.length<=1000/\Q (.str (tx (List.replicate n r).flatten)) H
theorem yz(r:LO):∀n (a:LO),(List.replicate n (tx r).cps).foldl (· ++ ·) a.toArray=(a++(List.replicate n r).flatten).toArray
 |0,a=>by simp
 |n+1,a=>by
  rw[List.replicate_succ,List.foldl_cons,List.replicate_succ,List.flatten_cons];have:a.toArray++(tx r).cps=(a++r).toArray:=by show a.toArray++r.toArray=_;simp
  rw[this,yz r n (a++r),Ln]
theorem CW:bC X (binaryOp .Mult) Cr:=by
 intro pins s σ H x y v u Q I rx ry h;obtain⟨r,n,rfl,rfl,n1,n2,hr,q⟩:=h;obtain⟨t,rfl⟩:=rx;obtain⟨t',rfl⟩:=ry;have hl:(tx r).length*n<=1000*1000:=by rw[ax];exact Nat.mul_le_mul hr n2
 refine P.mul_str ?_ (λ_ _=>?_) (λ_ _=>?_) ?_
 ·rw[q08 ⋯,q08 ⋯];rfl
 ·have h1:((tx r).length:Int)<=1000:=by rw[ax];omega
  have h2:(1000:Int)<=(2 ^ 63-1)/(n:Int):=by
   rw[Int.le_ediv_iff_mul_le ⋯];omega
  omega
 ·rw[KZ]
  show decide (_>sizeLine)=false;rw[decide_eq_false_iff_not];have:=q0W;omega
 ·rw[q06 ⋯]
  split
  ·rename_i hc
   have e:tx (List.replicate n r).flatten=tx r:=by
    rcases(by simpa[ax]using hc:(n:Int)=1\/r=[]) with h | h
    ·have:n=1:=by omega
     subst this;simp
    ·subst h;simp
   rw[e]at q;exact⟨.str (tx r),H,I,⟨_,rfl⟩,q⟩
  ·rw[KZ]
   have e:(⟨(List.replicate n (tx r).cps).foldl (· ++ ·) #[]⟩:Str)=tx (List.replicate n r).flatten:=by
    have:=yz r n [];rw[LC]at this;show Str.mk _=Str.mk _;rw[<- this]
   rw[e];have hz:(tx (List.replicate n r).flatten).length<=1000000:=by
    rw[ax,sS,Nat.mul_comm];rw[ax]at hl;exact hl
   exact⟨au hz,.str _,H,I.tok _,⟨_,rfl⟩,q⟩
end
theorem gP{H H':Hp}(h:H l=none)(e:aD H l o=H'):az H H'/\H' l=some o:=by subst e;exact⟨aj h,af⟩
structure zF(K:LM)(x qual:Str)(st:Stmt)(f:Addr)(fd:LU)(dT:Addr):Prop where
 ex:∃(oc:Value) (od:LZ) (kV doc pm:Value) (an:LZ) (cdv ct:Value) (osl:Array (Option Value)),
  fd=PySem.W.fnOf x qual (cY st) (cI st) (aq st) (.ref dT) kV doc pm an cdv ct/\K.lookup f=some ⟨oc,od,.func fd,osl⟩/\PySem.W.codeIn K cdv qual=true
structure Dj(P:LV)(w:LY)(K:LM)(mg:LS)(base:Heap)(CX:j9)(k:Nat)(x:Str)(ps:LW)(sp:Sp)(dvs:List V):Prop where
 ex:∃(f:Addr) (fd:LU) (ds:LQ),bj P w K mg base CX k f fd ps sp/\mg x=some (.ref f)/\PySem.W.keepIn K (.ref f)=true/\dO K fd ps ds/\bh dvs ds
section
variable {X:Cx}{CX:j9}{k:Nat}{x:Str}{ps:LW}{sp:Sp}{E:XK}{p pos:Pos}{e:Expr}{es:L3}{t:TA}{dvs:List V}
theorem yf(C:Dj X.prog X.w X.K X.mg X.base CX k x ps sp dvs)(hr:cQ k X.A)(hg:Gl X x)(hx:dC CX X E)(ha:PA X (e::es) t)(hdb:autoParam g⁻¹ zz2._auto_1)
  (hst:autoParam (starEach (e::es) X.env=(false,eval e X.env)::starEach es X.env) zz0._auto_1) (hpl:autoParam e⁻¹ zz0._auto_1):PE X (.Call (.Name x p) (e::es) [] pos) (kZ sp dvs E t):=by
 obtain⟨f,fd,ds,F,b,c,g,a⟩:=C.ex;exact yw F hr hg b c g a hx ha hdb hst hpl
end
section
variable {X:Cx}
def HQ(K:LM):R2:=λx y H Q=>∃(a b:Addr) (ss ts:LW),x=.ref a/\y=.ref b/\aQ K H a (ss.map V.str)/\aQ K H b (ts.map V.str)/\Q (.bl (decide (ss=ts))) H
theorem Da{ss ts:LW}(h:ss.length=ts.length):(List.range ss.length).all (λj=>decide (ss[j]?=ts[j]?))=decide (ss=ts):=by
 by_cases e:ss=ts
 ·subst e
  rw[q09 rfl,Lz];intro j _;exact q09 rfl
 ·rw[q08 e]
  cases b:(List.range ss.length).all (λj=>decide (ss[j]?=ts[j]?)) with
  |false=>rfl
  |true=>
   refine q0Q (List.ext_getElem? λj=>?_) e
   by_cases a:j<ss.length
   ·exact of_decide_eq_true (Lz.mp b j (List.mem_range.mpr a))
   ·rw[List.getElem?_eq_none ⋯,List.getElem?_eq_none ⋯]
theorem EJ(hu:X.A.units+64<cLine):bC X (compareOp .Eq) (HQ X.K):=by
 intro pins s σ H x y v u Q I rx ry h;obtain⟨a,b,c,g,rfl,rfl,T,S,q⟩:=h;cases rx;cases ry
 obtain⟨l,B,G,_⟩:=I.list T;obtain⟨k,z,D,_⟩:=I.list S;have O:=B.length;have M:=z.length
 rw[KO]at O M
 by_cases J:c.length=g.length
 ·have C:=SeqAt.RcAt.lists (A:=X.A) (s:=s) (e:=λj=>decide (c[j]?=g[j]?)) G.isList D.isList (by simp;omega) ⋯ (λj Y U=>by
   have p:j<l.length:=by simpa using Y
   have o:j<k.length:=by simpa using U
   have w:c[j]?=some (c[j]'⋯):=KL _;have r:g[j]?=some (g[j]'⋯):=KL _;obtain⟨w1,L,n⟩:=B.get (i:=j) (x:=.str (c[j]'⋯)) (by rw[KQ,w];rfl);obtain⟨w2,f2,m⟩:=z.get (i:=j) (x:=.str (g[j]'⋯)) (by rw[KQ,r];rfl);rw[KL p]at L;rw[KL o]at f2;cases L;cases f2
   simp only[LB,w,r];have:=iJ (A:=X.A.in1) (s:=s) n m rfl rfl;have Z:∀a b:Str,Eu (.str a) (.str b)=decide (some a=some b):=λa b=>by
    show(a==b)=_
    by_cases e:a=b
    ·subst e;simp
    ·rw[q08 (λh=>e (q0S h))];exact beq_eq_false_iff_ne.mpr e
   rw[Z]at this;exact this)
  have R:l.toArray.size=c.length:=by simp;omega
  rw[R,Da J]at C;exact C _ _ _ _ ⟨.bl _,H,I,rfl,q⟩
 ·rw[q08 (λe=>J (by rw[e]))]at q
  exact SeqAt.RcAt.lists_lengths G.isList D.isList (by simp;omega) ⋯ _ _ _ _ ⟨.bl false,H,I,rfl,q⟩
end
end L2
namespace TS
open PySem PyProof.Rows
section
variable {M:Model}{A:LX}{E:LL}{J:Shared->Prop}{σ:Type}
def fu(M:Model)(A:LX)(E:LL)(J:Shared->Prop){α:Type}(m:StateT σ Sem α)(Q:α->σ->Prop)(st:σ):Prop:=
 ∀s,J s->wpAny M A (m.run st) (λr s'=>J s'/\Q r.1 r.2) E s
theorem aB{α:Type}{a:α}{Q:α->σ->Prop}{st:σ}(h:Q a st):fu M A E J (pure a:StateT σ Sem α) Q st:=by
 intro s j;rw[StateT.run_pure];exact q05 ⟨j,h⟩
theorem av{α β:Type}{m:StateT σ Sem α}{f:α->StateT σ Sem β}{Q:β->σ->Prop}{st:σ}
  (h:fu M A E J m (λa st'=>fu M A E J (f a) Q st') st):fu M A E J (m >>= f) Q st:=by
 intro s j;rw[StateT.run_bind]
 exact q04 (q0X (h s j) (λr c b=>b.2 c b.1) λ_ _ e=>e)
theorem bX{α:Type}{m:StateT σ Sem α}{Q Q':α->σ->Prop}{st:σ}(h:fu M A E J m Q st)(hq:∀a st',Q a st'->Q' a st'):fu M A E J m Q' st:=
 λs j=>q0X (h s j) (λr _ h'=>⟨h'.1,hq _ _ h'.2⟩) λ_ _ e=>e
theorem gX{Q:σ->σ->Prop}{st:σ}(h:Q st st):fu M A E J (get:StateT σ Sem σ) Q st:=by
 intro s j;rw[StateT.run_get];exact q05 ⟨j,h⟩
theorem dl{f:σ->σ}{Q:PUnit->σ->Prop}{st:σ}(h:Q ⟨⟩ (f st)):fu M A E J (modify f:StateT σ Sem PUnit) Q st:=by
 intro s j;rw[StateT.run_modify];exact q05 ⟨j,h⟩
theorem Gb{x:σ}{Q:PUnit->σ->Prop}{st:σ}(h:Q ⟨⟩ x):fu M A E J (set x:StateT σ Sem PUnit) Q st:=by
 intro s j;rw[StateT.run_set];exact q05 ⟨j,h⟩
theorem kn{α:Type}{m:Sem α}{Q:α->σ->Prop}{st:σ}(h:∀s,J s->wpAny M A m (λa s'=>J s'/\Q a st) E s) :
  fu M A E J (liftM m:StateT σ Sem α) Q st:=by
 intro s j;show wpAny M A ((StateT.lift m:StateT σ Sem α).run st) _ E s;rw[StateT.run_lift];exact q04 (q0X (h s j) (λa s' b=>q05 b) λ_ _ e=>e)
theorem CB{β:Type}(f:Nat->β->StateT σ Sem (ForInStep β))(I:List Nat->β->σ->Prop)(Q:β->σ->Prop)
  (hs:∀x b_ b st,I (x::b_) b st->fu M A E J (f x b) (λr st'=>match r with | .done b'=>Q b' st' | .yield b'=>I b_ b' st') st)
  (he:∀b st,I [] b st->Q b st):∀(l:LO) (b:β) (st:σ),I l b st->fu M A E J (forIn l b f) Q st
 | [],b,st,h=>by rw[List.forIn_nil];exact aB (he _ _ h)
 |x::b_,b,st,h=>by
  rw[List.forIn_cons];refine av (bX (hs x b_ b st h) λr st' h'=>?_);cases r with
  |done b'=>exact aB h'
  |yield b'=>exact CB f I Q hs he b_ b' st' h'
theorem fb{β:Type}{a b:Nat}{f:Nat->β->StateT σ Sem (ForInStep β)}(I:Nat->β->σ->Prop){Q:β->σ->Prop}
  (hs:∀i c st,a<=i->i<b->I i c st->fu M A E J (f i c) (λr st'=>match r with | .done c'=>Q c' st' | .yield c'=>I (i+1) c' st') st)
  (he:∀c st,I (max a b) c st->Q c st) {c:β} {st:σ} (h:I a c st):fu M A E J (forIn [a:b] c f) Q st:=by
 rw[Std.Legacy.Range.forIn_eq_forIn_range'];have p:([a:b]:Std.Legacy.Range).size=b-a:=by simp[Std.Legacy.Range.size]
 show fu M A E J (forIn (List.range' a ([a:b]:Std.Legacy.Range).size 1) c f) Q st;rw[p];refine CB f (λl c st=>∃n,l.length=n/\∃i,a<=i/\l=List.range' i n 1/\i+n=max a b/\I i c st) Q ?_ ?_ _ c st ⟨b-a,by simp,a,Lb _,rfl,⋯,h⟩
 ·rintro x b_ c st ⟨n,g,i,e,j,k,m⟩
  cases n with
  |zero=>simp at g
  |succ n=>
   rw[List.range'_succ]at j;obtain⟨rfl,rfl⟩:=List.cons.inj j;refine bX (hs x c st e ⋯ m) λr st' o=>?_;cases r with
   |done c'=>exact o
   |yield c'=>exact⟨n,by simp,x+1,⋯,rfl,⋯,o⟩
 ·rintro c st ⟨n,g,i,e,j,k,m⟩
  simp at g;subst g
  have:i=max a b:=by omega
  subst this;exact he _ _ m
end
section
variable {prog:LV}{w:LY}{A:LX}{E:LL}{J:Shared->Prop}{a₀:Array Keyed}{kd:SortKind}{r:Keyed->Nat}
def si(prog:LV)(w:LY)(A:LX)(J:Shared->Prop)(a₀:Array Keyed)(kd:SortKind)(r:Keyed->Nat):Prop:=
 ∀x,x∈a₀.toList->∀y,y∈a₀.toList->∀s,J s->wpAny c⁻¹ A (keyLt' kd x.1 y.1) (λb s'=>J s'/\b=decide (r x<r y)) (λ_ _=>False) s
theorem B6(C:si prog w A J a₀ kd r){x y:Keyed}(hx:x∈a₀.toList)(hy:y∈a₀.toList){st:SortSt}(hk:kindOf st=kd){Q:Option Bool->SortSt->Prop}
  (h:Q (some (decide (r x<r y))) st):fu c⁻¹ A E J (lt' x y) Q st:=by
 rw[lt'_eq];refine av (gX ?_);rw[hk];refine av (kn λs j=>wpAny_attempt (q0X (C x hx y hy s j) (λb s' c=>?_) λ_ _ e=>?_))
 ·obtain⟨a,rfl⟩:=c;exact⟨a,aB h⟩
 ·exact e.elim
theorem cF{arr:Array Keyed}{i:Nat}{p:Keyed}(hp:arr[i]?=some p){st:SortSt}{Q:Keyed->SortSt->Prop}(h:Q p st):fu c⁻¹ A E J (elem' arr i) Q st:=by
 rw[elem'_eq,hp];exact aB h
def im:Bool->Keyed->Array Keyed->Nat->Nat->Nat->StateT SortSt Sem (Option Nat):=sortPriv% PySem.Builtin.gallop
theorem uM{n lo hi:Nat}{st:SortSt}{Q:Option Nat->SortSt->Prop}{B:Nat->Bool}{bey:Nat->StateT SortSt Sem (Option Bool)}
  (be:∀i,i<n->∀{Q':Option Bool->SortSt->Prop},Q' (some (B i)) st->fu c⁻¹ A E J (bey i) Q' st)
  (hm:∀i j,i<=j->j<n->B j=true->B i=true) (hl:lo<=hi) (hh:hi<=n) (fl:∀i,i<lo->B i=true) (fh:∀i,hi<=i->i<n->B i=false)
  (h:∀k,k<=n->(∀i,i<k->B i=true)->(∀i,k<=i->i<n->B i=false)->Q (some k) st)
  {F:Nat->Option (Option Nat)×Nat×Nat->StateT SortSt Sem (ForInStep (Option (Option Nat)×Nat×Nat))}
  (hF:∀x l u,F x (none,l,u)=if l≥u then pure (ForInStep.done (none,l,u)) else bey (l+(u-l)/2) >>= λo=>match o with
   |some t=>if t=true then pure (ForInStep.yield (none,l+(u-l)/2+1,u)) else pure (ForInStep.yield (none,l,l+(u-l)/2))
   |none=>pure (ForInStep.done (some none,l,u)))
  {G:Option (Option Nat)×Nat×Nat->StateT SortSt Sem (Option Nat)} (hG:∀l u,G (none,l,u)=pure (some u)) :
  fu c⁻¹ A E J (forIn [0:n] (none,lo,hi) F >>= G) Q st:=by
 refine av (bX (fb (I:=λx c a=>a=st/\∃l u,c=(none,l,u)/\l<=u/\u<=n/\u-l<=n-x/\(∀i,i<l->B i=true)/\(∀i,u<=i->i<n->B i=false))
  (Q:=λc a=>a=st/\∃l u,c=(none,l,u)/\u<=n/\(∀i,i<u->B i=true)/\(∀i,u<=i->i<n->B i=false)) ?s ?e ⟨rfl,lo,hi,rfl,hl,hh,⋯,fl,fh⟩) ?p)
 case e=>
  rintro c a ⟨rfl,l,u,rfl,h1,h2,C,g,b⟩;exact⟨rfl,l,u,rfl,h2,λi m=>g i ⋯,b⟩
 case s=>
  rintro x c a _ hxn ⟨rfl,l,u,rfl,h1,h2,C,g,b⟩;rw[hF]
  by_cases q:l≥u
  ·rw[q07 q];exact aB ⟨rfl,l,u,rfl,h2,λi m=>g i ⋯,b⟩
  ·rw[q06 q]
   refine av (be (l+(u-l)/2) ⋯ ?_);dsimp only
   by_cases r:B (l+(u-l)/2)=true
   ·rw[q07 r];exact aB ⟨rfl,_,u,rfl,⋯,h2,⋯,λi m=>hm i _ ⋯ ⋯ r,b⟩
   ·rw[q06 r]
    refine aB ⟨rfl,l,_,rfl,⋯,⋯,⋯,g,λi y v=>?_⟩;cases z:B i with
    |false=>rfl
    |true=>exact q0Q (hm _ i y v z) r
 case p=>
  rintro c a ⟨rfl,l,u,rfl,h2,g,b⟩;rw[hG];exact aB (h u h2 g b)
theorem Ck{left:Bool}{key:Keyed}{arr:Array Keyed}{base n hint:Nat}{st:SortSt}{Q:Option Nat->SortSt->Prop}{B:Nat->Bool}(C:si prog w A J a₀ kd r)(hk:kindOf st=kd)
  (hkey:key∈a₀.toList) (hi:hint<n) (hx:∀i,i<n->∃x,arr[base+i]?=some x/\x∈a₀.toList/\B i=if left then decide (r x<r key) else !decide (r key<r x))
  (hm:∀i j,i<=j->j<n->B j=true->B i=true)
  (h:∀k,k<=n->(∀i,i<k->B i=true)->(∀i,k<=i->i<n->B i=false)->Q (some k) st) :
  fu c⁻¹ A E J (im left key arr base n hint) Q st:=by
 have L:∀i,i<n->∀{M:Option Bool->SortSt->Prop},M (some (B i)) st->fu c⁻¹ A E J (do
   let x <- elem' arr (base+i)
   if left=true then lt' x key else do
    let y <- lt' key x
    pure (y.map (!·))) M st:=by
  intro i hi M q;obtain⟨x,e,m,b⟩:=hx i hi;refine av (cF e ?_);cases left with
  |true=>rw[q07 rfl]at b ⊢;exact B6 C m hkey hk (by rw[<- b];exact q)
  |false=>
   rw[q06 b⁻¹]at b ⊢;exact av (B6 C hkey m hk (aB (by show M (some (!decide _)) st;rw[<- b];exact q)))
 unfold im;refine av (L hint hi ?_);dsimp only
 by_cases T:B hint=true
 ·rw[q07 T]
  refine av (bX (fb (I:=λx c a=>a=st/\∃l o,c=(none,l,o)/\l<o/\x+1<=o/\hint+l<n/\B (hint+l)=true)
   (Q:=λc a=>a=st/\∃l o,c=(none,l,o)/\l<o/\hint+l<n/\B (hint+l)=true/\(n-hint<=o\/B (hint+o)=false)) ?s1 ?e1 ⟨rfl,0,1,rfl,⋯,⋯,⋯,T⟩) ?p1)
  case e1=>
   rintro c a ⟨rfl,l,o,rfl,h1,h2,v,p⟩;exact⟨rfl,l,o,rfl,h1,v,p,.inl ⋯⟩
  case s1=>
   rintro x c a _ R ⟨rfl,l,o,rfl,h1,h2,v,p⟩;dsimp only
   by_cases g:o≥n-hint
   ·rw[q07 g];exact aB ⟨rfl,l,o,rfl,h1,v,p,.inl g⟩
   ·rw[q06 g]
    refine av (L (hint+o) ⋯ ?_);dsimp only
    by_cases G:B (hint+o)=true
    ·rw[G,q06 b⁻¹];exact aB ⟨rfl,o,2*o+1,rfl,⋯,⋯,⋯,G⟩
    ·have z:B (hint+o)=false:=by cases D:B (hint+o)<;>simp_all
     rw[z,q07 b⁻¹];exact aB ⟨rfl,l,o,rfl,h1,v,p,.inr z⟩
  case p1=>
   rintro c a ⟨rfl,l,o,rfl,h1,v,p,h5⟩;dsimp only;have U:∀i,i<hint+l+1->B i=true:=λi hi'=>hm i (hint+l) ⋯ v p;have Y:∀i,hint+min o (n-hint)<=i->i<n->B i=false:=by
    intro i Z O;rcases h5 with h5 | h5
    ·omega
    ·cases D:B i with
     |false=>rfl
     |true=>exact q0Q (hm (hint+o) i ⋯ O D) (by rw[h5];decide)
   exact uM L hm ⋯ ⋯ U Y h (λx l u=>ite_congr rfl (λ_=>rfl) λ_=>q0R _ (funext λo=>by cases o<;>rfl)) (λl u=>rfl)
 ·have S:B hint=false:=by cases D:B hint<;>simp_all
  rw[q06 T];refine av (bX (fb (I:=λx c a=>a=st/\∃l o,c=(none,l,o)/\l<o/\x+1<=o/\l<=hint/\B (hint-l)=false)
   (Q:=λc a=>a=st/\∃l o,c=(none,l,o)/\l<o/\l<=hint/\B (hint-l)=false/\(hint+1<=o\/(o<=hint/\B (hint-o)=true))) ?s2 ?e2 ⟨rfl,0,1,rfl,⋯,⋯,⋯,S⟩) ?p2)
  case e2=>
   rintro c a ⟨rfl,l,o,rfl,h1,h2,v,p⟩;exact⟨rfl,l,o,rfl,h1,v,p,.inl ⋯⟩
  case s2=>
   rintro x c a _ R ⟨rfl,l,o,rfl,h1,h2,v,p⟩;dsimp only
   by_cases g:o≥hint+1
   ·rw[q07 g];exact aB ⟨rfl,l,o,rfl,h1,v,p,.inl g⟩
   ·rw[q06 g]
    refine av (L (hint-o) ⋯ ?_);dsimp only
    by_cases G:B (hint-o)=true
    ·rw[q07 G];exact aB ⟨rfl,l,o,rfl,h1,v,p,.inr ⟨⋯,G⟩⟩
    ·have z:B (hint-o)=false:=by cases D:B (hint-o)<;>simp_all
     rw[q06 G];exact aB ⟨rfl,o,2*o+1,rfl,⋯,⋯,⋯,z⟩
  case p2=>
   rintro c a ⟨rfl,l,o,rfl,h1,v,p,h5⟩;dsimp only;have U:∀i,i<hint+1-min o (hint+1)->B i=true:=by
    intro i Z;rcases h5 with h5 | ⟨h5,h6⟩
    ·omega
    ·exact hm i (hint-o) ⋯ ⋯ h6
   have Y:∀i,hint-l<=i->i<n->B i=false:=by
    intro i Z O;cases D:B i with
    |false=>rfl
    |true=>exact q0Q (hm (hint-l) i ⋯ O D) (by rw[p];decide)
   exact uM L hm ⋯ ⋯ U Y h (λx l u=>ite_congr rfl (λ_=>rfl) λ_=>q0R _ (funext λo=>by cases o<;>rfl)) (λl u=>rfl)
end
structure MI{α:Type}(le:α->α->Prop)(X Y out rx ry:List α):Prop where
 ex:∃px py,X=px++rx/\Y=py++ry/\out.Perm (px++py)
 so:out.Pairwise le
 ah:∀p,p∈out->∀q,q∈rx++ry->le p q
namespace MI
variable {α:Type}{le:α->α->Prop}{X Y out rx ry:List α}
theorem start(X Y:List α):MI le X Y [] X Y:=⟨⟨[],[],rfl,rfl,List.Perm.refl _⟩,.nil,λp h=>nomatch h⟩
theorem swap(h:MI le X Y out rx ry):MI le Y X out ry rx:=by
 obtain⟨⟨e,c,l,k,j⟩,s,a⟩:=h;exact⟨⟨c,e,k,l,j.trans List.perm_append_comm⟩,s,λp g q b=>a p g q (by rw[K3]at b ⊢;exact b.symm)⟩
theorem takeX{c rx':List α}(h:MI le X Y out (c++rx') ry)(sX:X.Pairwise le)(hc:∀p,p∈c->∀q,q∈ry->le p q):MI le X Y (out++c) rx' ry:=by
 obtain⟨⟨e,k,g,m,l⟩,s,a⟩:=h;rw[g]at sX;have j:=(List.pairwise_append.mp sX).2.1;have b:=List.pairwise_append.mp j;refine⟨⟨e++c,k,by rw[g,Ln],m,?_⟩,List.pairwise_append.mpr ⟨s,b.1,λp hp q hq=>a p hp q (by simp[hq])⟩,λp hp q hq=>?_⟩
 ·refine(l.append_right c).trans ?_
  rw[Ln,Ln];exact List.perm_append_comm.append_left e
 ·rcases K3.mp hp with hp | hp
  ·exact a p hp q (by rcases K3.mp hq with hq | hq<;>simp[hq])
  ·rcases K3.mp hq with hq | hq
   ·exact b.2.2 p hp q hq
   ·exact hc p hp q hq
theorem takeY{c ry':List α}(h:MI le X Y out rx (c++ry'))(sY:Y.Pairwise le)(hc:∀p,p∈c->∀q,q∈rx->le p q):MI le X Y (out++c) rx ry':=
 (h.swap.takeX sY hc).swap
theorem oneX{x:α}{rx':List α}(h:MI le X Y out (x::rx') ry)(sX:X.Pairwise le)(hc:∀q,q∈ry->le x q):MI le X Y (out++[x]) rx' ry:=
 takeX (c:=[x]) h sX λp hp q hq=>by rw[KP]at hp;subst hp;exact hc q hq
theorem oneY{y:α}{ry':List α}(h:MI le X Y out rx (y::ry'))(sY:Y.Pairwise le)(hc:∀q,q∈rx->le y q):MI le X Y (out++[y]) rx ry':=
 takeY (c:=[y]) h sY λp hp q hq=>by rw[KP]at hp;subst hp;exact hc q hq
theorem len(h:MI le X Y out rx ry):out.length+rx.length+ry.length=X.length+Y.length:=by
 obtain⟨⟨px,py,c,b,a⟩,_,_⟩:=h;have:=a.length_eq;rw[c,b];simp at this ⊢;omega
theorem fin{l:List α}(h:MI le X Y out rx ry)(hp:l.Perm (rx++ry))(hs:l.Pairwise le):(out++l).Pairwise le/\(out++l).Perm (X++Y):=by
 obtain⟨⟨b,py,g,e,c⟩,s,a⟩:=h;refine⟨List.pairwise_append.mpr ⟨s,hs,λp h1 q h2=>a p h1 q (hp.mem_iff.mp h2)⟩,?_⟩;rw[g,e];refine(c.append hp).trans ?_;rw[Ln,Ln];refine List.Perm.append_left b ?_;rw[<- Ln,<- Ln];exact List.perm_append_comm.append_right ry
theorem finX(h:MI le X Y out rx [])(sX:X.Pairwise le):(out++rx).Pairwise le/\(out++rx).Perm (X++Y):=by
 obtain⟨px,py,a,_,_⟩:=h.ex;exact h.fin (by rw[Lm]) (by rw[a]at sX;exact(List.pairwise_append.mp sX).2.1)
theorem finY(h:MI le X Y out [] ry)(sY:Y.Pairwise le):(out++ry).Pairwise le/\(out++ry).Perm (X++Y):=by
 obtain⟨px,py,_,a,_⟩:=h.ex;exact h.fin (by rw[LC]) (by rw[a]at sY;exact(List.pairwise_append.mp sY).2.1)
theorem lastX{x:α}(h:MI le X Y out [x] ry)(sY:Y.Pairwise le)(hx:∀q,q∈ry->le q x):(out++(ry++[x])).Pairwise le/\(out++(ry++[x])).Perm (X++Y):=by
 obtain⟨px,py,_,c,_⟩:=h.ex;refine h.fin List.perm_append_comm ?_;rw[c]at sY;exact List.pairwise_append.mpr ⟨(List.pairwise_append.mp sY).2.1,List.pairwise_singleton _ _,λp b q a=>by rw[KP]at a;subst a;exact hx p b⟩
end MI
theorem yN{α:Type}(a:Array α)(i:Nat):(a.extract i a.size).toList=a.toList.drop i:=by
 rw[Array.toList_extract];simp[List.extract];exact q0F (by simp)
theorem oi{α:Type}(a:Array α)(i k:Nat):(a.extract i (i+k)).toList=(a.toList.drop i).take k:=by
 rw[Array.toList_extract];simp[List.extract]
theorem gu{α:Type}(a:Array α){i:Nat}(h:i<a.toList.length):∃x,a[i]?=some x/\a.toList.drop i=x::a.toList.drop (i+1)/\x∈a.toList:=by
 refine⟨a.toList[i],?_,q0T h,KY h⟩;rw[<- q0G,KL h]
def SG(st st':SortSt):Prop:=kindOf st'=kindOf st/\arrOf st'=arrOf st/\pendingOf st'=pendingOf st/\failedOf st'=failedOf st
theorem SG.refl(st:SortSt):SG st st:=⟨rfl,rfl,rfl,rfl⟩
abbrev PA:=Array Keyed
abbrev SM:=StateT SortSt Sem
abbrev iY(r:Keyed->Nat):Keyed->Keyed->Prop:=λp q=>r p<=r q
def vQ:PA->PA->SM PA:=sortPriv% PySem.Builtin.mergeLo
def mF:Nat->SM Unit:=sortPriv% PySem.Builtin.setMinGallop
abbrev L1:=Option PA×PA×Nat×Nat×Nat×Nat
abbrev G4:=Option PA×PA×Nat×Nat×Nat×Nat×Nat
abbrev L0:=Option PA×PA×Nat×Nat×Nat
abbrev Bm(a b:PA)(o:PA)(i j:Nat):PA:=o++a.extract i a.size++b.extract j b.size
abbrev EY(a b:PA)(o:PA)(i j:Nat):PA:=o++b.extract j b.size++a.extract i a.size
def HK(a b:PA)(g:Nat)(o:PA)(i j m n:Nat):SM (ForInStep L1):=
 elem' b j >>= λy=>elem' a i >>= λx=>lt' y x >>= λt=>match t with
 |some t=>if t=true then elem' b j >>= λy=>
   if(j+1==b.size)=true then pure (.done (some (Bm a b (o.push y) i (j+1)),o.push y,i,j+1,0,n+1))
   else if n+1≥g then pure (.done (none,o.push y,i,j+1,0,n+1)) else pure (.yield (none,o.push y,i,j+1,0,n+1))
  else elem' a i >>= λx=>
   if(i+1+1==a.size)=true then pure (.done (some (EY a b (o.push x) (i+1) j),o.push x,i+1,j,m+1,0))
   else if m+1≥g then pure (.done (none,o.push x,i+1,j,m+1,0)) else pure (.yield (none,o.push x,i+1,j,m+1,0))
 |_=>pure (.done (some (Bm a b o i j),o,i,j,m,n))
def Hc(a b:PA)(o:PA)(i j g m n:Nat):SM (ForInStep G4):=
 elem' a i >>= λx=>if(i+1+1==a.size)=true then pure (.done (some (EY a b (o.push x) (i+1) j),o.push x,i+1,j,g,m,n))
  else if(decide (m<7)&&decide (n<7))=true then pure (.done (none,o.push x,i+1,j,g,m,n)) else pure (.yield (none,o.push x,i+1,j,g,m,n))
def G5(a b:PA)(o:PA)(i j g m n:Nat):SM (ForInStep G4):=
 elem' b j >>= λy=>if(j+1==b.size)=true then pure (.done (some (Bm a b (o.push y) i (j+1)),o.push y,i,j+1,g,m,n))
  else elem' a i >>= λx=>im true x b (j+1) (b.size-(j+1)) 0 >>= λt=>match t with
  |some k=>if k>0 then
    if(j+1+k==b.size)=true then pure (.done (some (Bm a b (o.push y++b.extract (j+1) (j+1+k)) i (j+1+k)),o.push y++b.extract (j+1) (j+1+k),i,j+1+k,g,m,k))
    else Hc a b (o.push y++b.extract (j+1) (j+1+k)) i (j+1+k) g m k
   else Hc a b (o.push y) i (j+1) g m k
  |_=>pure (.done (some (Bm a b (o.push y) i (j+1)),o.push y,i,j+1,g,m,n))
def Gr(a b:PA)(o:PA)(i j g m n:Nat):SM (ForInStep G4):=
 mF g >>= λ_=>elem' b j >>= λy=>im false y a i (a.size-i) 0 >>= λt=>match t with
  |some k=>if k>0 then
    if(i+k+1==a.size)=true then pure (.done (some (EY a b (o++a.extract i (i+k)) (i+k) j),o++a.extract i (i+k),i+k,j,g,k,n))
    else if(i+k==a.size)=true then pure (.done (some (Bm a b (o++a.extract i (i+k)) (i+k) j),o++a.extract i (i+k),i+k,j,g,k,n))
    else G5 a b (o++a.extract i (i+k)) (i+k) j g k n
   else G5 a b o i j g k n
  |_=>pure (.done (some (Bm a b o i j),o,i,j,g,m,n))
def Hd(a b:PA)(s:L0):SM (ForInStep L0):=
 forIn [0:a.size+b.size] ((none,s.2.1,s.2.2.1,s.2.2.2.1,0,0):L1) (λ_ t=>HK a b s.2.2.2.2 t.2.1 t.2.2.1 t.2.2.2.1 t.2.2.2.2.1 t.2.2.2.2.2) >>= λt=>
 match t.1 with
 |some z=>pure (.done (some z,t.2.1,t.2.2.1,t.2.2.2.1,s.2.2.2.2))
 |none=>liftM (rule "list.sort.gallop") >>= λ_=>
  forIn [0:a.size+b.size] ((none,t.2.1,t.2.2.1,t.2.2.2.1,s.2.2.2.2+1,t.2.2.2.2.1,t.2.2.2.2.2):G4) (λ_ u=>
   if u.2.2.2.2.1>1 then Gr a b u.2.1 u.2.2.1 u.2.2.2.1 (u.2.2.2.2.1-1) u.2.2.2.2.2.1 u.2.2.2.2.2.2 else Gr a b u.2.1 u.2.2.1 u.2.2.2.1 u.2.2.2.2.1 u.2.2.2.2.2.1 u.2.2.2.2.2.2) >>= λu=>
  match u.1 with
  |some z=>pure (.done (some z,u.2.1,u.2.2.1,u.2.2.2.1,u.2.2.2.2.1))
  |none=>mF (u.2.2.2.2.1+1) >>= λ_=>pure (.yield (none,u.2.1,u.2.2.1,u.2.2.2.1,u.2.2.2.2.1+1))
def EC(a b:PA):SM PA:=
 liftM (rule "list.sort.merge-lo") >>= λ_=>elem' b 0 >>= λy=>
 if((1:Nat)==b.size)=true then pure (Bm a b #[y] 0 1) else if((0:Nat)+1==a.size)=true then pure (EY a b #[y] 0 1) else
 get >>= λst=>forIn [0:a.size+b.size] ((none,#[y],0,1,gallopOf st):L0) (λ_ s=>Hd a b s) >>= λs=>
 match s.1 with
 |some z=>pure z
 |none=>liftM (unsupported "internal:list.sort.merge-bound":Sem PA)
theorem aY{α β:Type}{m m':SM α}{f g:α->SM β}(e:m=m')(h:∀x,f x=g x):(m >>= f)=(m' >>= g):=by rw[e,funext h]
theorem ib{β:Type}{n:Nat}{c:β}{f g:Nat->β->SM (ForInStep β)}(h:∀x s,f x s=g x s):(forIn [0:n] c f:SM β)=forIn [0:n] c g:=by
 rw[show f=g from funext λx=>funext λs=>h x s]
theorem d_{α:Type}{c:Prop}[Decidable c]{a b a' b':α}(h:a=a')(k:b=b'):(if c then a else b)=if c then a' else b':=by rw[h,k]
theorem wL(a b:PA):vQ a b=EC a b:=by
 refine aY rfl λ_=>aY rfl λy=>d_ rfl (d_ rfl (aY rfl λst=>aY (ib λ_ s=>?_) λs=>?_))
 ·refine aY (ib λ_ t=>?_) λt=>?_
  ·refine aY rfl λy=>aY rfl λx=>aY rfl λt=>?_
   rfl
  ·obtain⟨z,t⟩:=t
   cases z with
   |some z=>rfl
   |none=>
    refine aY rfl λ_=>aY (ib λ_ u=>d_ ?_ ?_) λu=>?_
    ·rfl
    ·rfl
    ·obtain⟨z,u⟩:=u
     cases z<;>rfl
 ·obtain⟨z,s⟩:=s
  cases z<;>rfl
section
variable {prog:LV}{w:LY}{A:LX}{E:LL}{J:Shared->Prop}{a₀:Array Keyed}{kd:SortKind}{r:Keyed->Nat}
def bt(r:Keyed->Nat)(left:Bool)(key p:Keyed):Prop:=if left=true then r p<r key else r p<=r key
noncomputable instance (left:Bool)(key p:Keyed):Decidable (bt r left key p):=by unfold bt;infer_instance
theorem B1{arr:PA}{base n t:Nat}(hn:base+n<=arr.toList.length)(ht:t<n):arr[base+t]?=((arr.toList.drop base).take n)[t]?:=by
 rw[List.getElem?_take,q07 ht,List.getElem?_drop,q0G]
theorem qT{left:Bool}{key:Keyed}{arr:PA}{base n hint:Nat}{st:SortSt}{Q:Option Nat->SortSt->Prop}(C:si prog w A J a₀ kd r)(hk:kindOf st=kd)(hkey:key∈a₀.toList)
  (hi:hint<n) (hn:base+n<=arr.toList.length) (mem:∀p,p∈(arr.toList.drop base).take n->p∈a₀.toList) (srt:((arr.toList.drop base).take n).Pairwise (iY r))
  (h:∀k,k<=n->(∀p,p∈((arr.toList.drop base).take n).take k->bt r left key p)->(∀p,p∈((arr.toList.drop base).take n).drop k->¬ bt r left key p)->Q (some k) st) :
  fu c⁻¹ A E J (im left key arr base n hint) Q st:=by
 generalize hS:(arr.toList.drop base).take n=S at *;have lS:S.length=n:=by rw[<- hS];simp at hn ⊢;omega
 have at':∀t,t<n->arr[base+t]?=S[t]?:=λt ht=>by rw[<- hS];exact B1 hn ht
 refine Ck (B:=λt=>match S[t]? with | some x=>decide (bt r left key x) | none=>false) C hk hkey hi (λt ht=>?_) (λi j hij hj hB=>?_) λk hk' f g=>h k hk' (λp hp=>?_) λp hp=>?_
 ·have e:S[t]?=some S[t]:=KL ⋯
  refine⟨S[t],by rw[at' t ht,e],mem _ (KY _),?_⟩;rw[e];dsimp only
  unfold bt;cases left with
  |true=>simp
  |false=>
   simp only[q0a,if_false]
   by_cases q:r key<r S[t]
   ·rw[q09 q,q08 ⋯];rfl
   ·rw[q08 q,q09 ⋯];rfl
 ·have e1:S[i]?=some S[i]:=KL ⋯
  have e2:S[j]?=some S[j]:=KL ⋯;rw[e2]at hB;rw[e1];dsimp only at hB ⊢
  have hle:r S[i]<=r S[j]:=by
   rcases Nat.lt_or_ge i j with q | q
   ·exact(List.pairwise_iff_getElem.mp srt) i j ⋯ ⋯ q
   ·have:i=j:=by omega
    subst this;exact Lb _
  have hB':=of_decide_eq_true hB;refine q09 ?_;unfold bt at hB' ⊢
  split at hB'<;>rename_i hc
  ·rw[q07 hc];omega
  ·rw[q06 hc];omega
 ·obtain⟨t,ht,e⟩:=List.mem_iff_getElem.mp hp
  rw[Lq]at ht;rw[List.getElem_take]at e;have:=f t ⋯;rw[KL ⋯]at this;rw[<- e];exact of_decide_eq_true this
 ·obtain⟨t,ht,e⟩:=List.mem_iff_getElem.mp hp
  rw[Lr]at ht;rw[List.getElem_drop]at e;have:=g (k+t) ⋯ ⋯;rw[KL ⋯]at this;rw[<- e];exact of_decide_eq_false this
theorem mO{left:Bool}{key:Keyed}(h:¬ bt r left key p):if left=true then r key<=r p else r key<r p:=by
 unfold bt at h
 split at h<;>rename_i hc
 ·rw[q07 hc];omega
 ·rw[q06 hc];omega
structure MC(prog:LV)(w:LY)(A:LX)(J:Shared->Prop)(a₀:PA)(kd:SortKind)(r:Keyed->Nat)(a b:PA):Prop where
 C:si prog w A J a₀ kd r
 ha:∀p,p∈a.toList->p∈a₀.toList
 hb:∀p,p∈b.toList->p∈a₀.toList
 sa:a.toList.Pairwise (iY r)
 sb:b.toList.Pairwise (iY r)
 hl:∀x,a[a.toList.length-1]?=some x->∀q,q∈b.toList->r q<=r x
def jt(r:Keyed->Nat)(a b z:PA):Prop:=z.toList.Pairwise (iY r)/\z.toList.Perm (a.toList++b.toList)
structure jT(r:Keyed->Nat)(a b o:PA)(i j:Nat):Prop where
 mi:MI (iY r) a.toList b.toList o.toList (a.toList.drop i) (b.toList.drop j)
 hi:i+1<a.toList.length
 hj:j<b.toList.length
def PG(r:Keyed->Nat)(a b:PA)(k:Nat)(z:Option PA)(o:PA)(i j:Nat):Prop:=match z with
 |some z=>jt r a b z
 |none=>jT r a b o i j/\k<=o.size
variable {a b:PA}
theorem jT.lt{i:Nat}(h:jT r a b o i j):o.size<a.size+b.size:=by
 have:=h.mi.len;have h1:=h.hi;have h2:=h.hj
 simp at this h1 h2;omega
theorem GL(m:MC prog w A J a₀ kd r a b){o:PA}{i j:Nat}(h:MI (iY r) a.toList b.toList o.toList (a.toList.drop i) (b.toList.drop j))(hj:(j==b.size)=true\/(i==a.size)=true):jt r a b (Bm a b o i j):=by
 unfold jt;rw[show(Bm a b o i j).toList=o.toList++(a.toList.drop i++b.toList.drop j) by simp only[Bm,q0V,yN,Ln]];rcases hj with hj | hj
 ·have e:b.toList.drop j=[]:=List.drop_eq_nil_of_le (by have:=eq_of_beq hj;simp;omega)
  rw[e]at h ⊢;rw[Lm];exact h.finX m.sa
 ·have e:a.toList.drop i=[]:=List.drop_eq_nil_of_le (by have:=eq_of_beq hj;simp;omega)
  rw[e]at h ⊢;rw[LC];exact h.finY m.sb
theorem G'(m:MC prog w A J a₀ kd r a b){o:PA}{i j:Nat}(h:MI (iY r) a.toList b.toList o.toList (a.toList.drop i) (b.toList.drop j))(hi:(i+1==a.size)=true):jt r a b (EY a b o i j):=by
 have e:=eq_of_beq hi;obtain⟨x,l,g,e3⟩:=gu a (i:=i) (by simp;omega);have c:a.toList.drop (i+1)=[]:=List.drop_eq_nil_of_le (by simp;omega);unfold jt;rw[show(EY a b o i j).toList=o.toList++(b.toList.drop j++a.toList.drop i) by simp only[EY,q0V,yN,Ln],g,c];rw[g,c]at h;refine h.lastX m.sb λq k=>m.hl x ?_ q (q0I k);rw[show a.toList.length-1=i by simp;omega];exact l
theorem nZ{l:List Keyed}(s:l.Pairwise (iY r)){i:Nat}{y:Keyed}(e:l.drop i=y::l.drop (i+1)):∀q,q∈l.drop i->r y<=r q:=by
 intro q hq;have:=s.sublist (List.drop_sublist i l);rw[e]at this hq;rcases K5.mp hq with rfl | hq
 ·exact Lb _
 ·exact(List.pairwise_cons.mp this).1 q hq
theorem cS{x y:Nat}(h:¬ (x==y)=true):x≠y:=λe=>h (by rw[e];exact beq_self_eq_true y)
theorem F7(m:MC prog w A J a₀ kd r a b){st:SortSt}(hk:kindOf st=kd){o:PA}{i j g u v:Nat}(h:jT r a b o i j) :
  fu c⁻¹ A E J (HK a b g o i j u v) (λt st'=>st'=st/\match t with
   | .done s=>PG r a b (o.size+1) s.1 s.2.1 s.2.2.1 s.2.2.2.1
   | .yield s=>s.1=none/\PG r a b (o.size+1) s.1 s.2.1 s.2.2.1 s.2.2.2.1) st:=by
 unfold HK;obtain⟨y,z,p,G⟩:=gu b h.hj;obtain⟨x,D,B,I⟩:=gu a (i:=i) (by have:=h.hi;omega);refine av (cF z (av (cF D (av (B6 m.C (m.hb _ G) (m.ha _ I) hk ?_)))));dsimp only;have mi:=h.mi
 by_cases n:r y<r x
 ·rw[q07 (q09 n)]
  refine av (cF z ?_);rw[p]at mi;have c:MI (iY r) a.toList b.toList (o.push y).toList (a.toList.drop i) (b.toList.drop (j+1)):=by
   rw[Array.toList_push];exact mi.oneY m.sb λq l=>by have:=nZ m.sa B q l;show r y<=r q;omega
  by_cases e:(j+1==b.size)=true
  ·rw[q07 e];exact aB ⟨rfl,GL m c (.inl e)⟩
  ·rw[q06 e]
   have k:jT r a b (o.push y) i (j+1):=⟨c,h.hi,by have:=cS e;have:=h.hj;simp at this ⊢;omega⟩
   split
   ·exact aB ⟨rfl,k,by simp⟩
   ·exact aB ⟨rfl,rfl,k,by simp⟩
 ·rw[q06 (by simpa using n)]
  refine av (cF D ?_);rw[B]at mi;have c:MI (iY r) a.toList b.toList (o.push x).toList (a.toList.drop (i+1)) (b.toList.drop j):=by
   rw[Array.toList_push];exact mi.oneX m.sa λq l=>by have:=nZ m.sb p q l;show r x<=r q;omega
  by_cases e:(i+1+1==a.size)=true
  ·rw[q07 e];exact aB ⟨rfl,G' m c e⟩
  ·rw[q06 e]
   have k:jT r a b (o.push x) (i+1) j:=⟨c,by have:=cS e;have:=h.hi;simp at this ⊢;omega,h.hj⟩
   split
   ·exact aB ⟨rfl,k,by simp⟩
   ·exact aB ⟨rfl,rfl,k,by simp⟩
theorem oh{st:SortSt}{Q:Unit->SortSt->Prop}(h:∀st',SG st st'->Q () st'):fu c⁻¹ A E J (mF g) Q st:=by
 unfold mF;exact dl (h _ ⟨rfl,rfl,rfl,rfl⟩)
theorem yE{l:List Keyed}(i:Nat):(l.drop i).take (l.length-i)=l.drop i:=q0F (by simp)
theorem Ei(m:MC prog w A J a₀ kd r a b){st:SortSt}{o:PA}{i j g u v k:Nat}(h:jT r a b o i j)(hk:k<=o.size)(hx:∀x,a[i]?=some x->∀q,q∈b.toList.drop j->r x<=r q) :
  fu c⁻¹ A E J (Hc a b o i j g u v) (λt st'=>st'=st/\match t with
   | .done s=>PG r a b (k+1) s.1 s.2.1 s.2.2.1 s.2.2.2.1
   | .yield s=>s.1=none/\PG r a b (k+1) s.1 s.2.1 s.2.2.1 s.2.2.2.1) st:=by
 unfold Hc;obtain⟨x,n,p,a3⟩:=gu a (i:=i) (by have:=h.hi;omega);refine av (cF n ?_);have mi:=h.mi;rw[p]at mi;have c:MI (iY r) a.toList b.toList (o.push x).toList (a.toList.drop (i+1)) (b.toList.drop j):=by
  rw[Array.toList_push];exact mi.oneX m.sa (hx x n)
 by_cases e:(i+1+1==a.size)=true
 ·rw[q07 e];exact aB ⟨rfl,G' m c e⟩
 ·rw[q06 e]
  have l:jT r a b (o.push x) (i+1) j:=⟨c,by have:=cS e;have:=h.hi;simp at this ⊢;omega,h.hj⟩
  split
  ·exact aB ⟨rfl,l,by simp;omega⟩
  ·exact aB ⟨rfl,rfl,l,by simp;omega⟩
theorem ka(l:List Keyed)(i k:Nat):l.drop i=(l.drop i).take k++l.drop (i+k):=by
 rw[<- List.drop_drop];exact(List.take_append_drop k _).symm
theorem Ez(m:MC prog w A J a₀ kd r a b){st:SortSt}(hk:kindOf st=kd){o:PA}{i j g u v k:Nat}(h:jT r a b o i j)(hz:k<=o.size)(hy:∀y,b[j]?=some y->∀q,q∈a.toList.drop i->r y<=r q) :
  fu c⁻¹ A E J (G5 a b o i j g u v) (λt st'=>st'=st/\match t with
   | .done s=>PG r a b (k+1) s.1 s.2.1 s.2.2.1 s.2.2.2.1
   | .yield s=>s.1=none/\PG r a b (k+1) s.1 s.2.1 s.2.2.1 s.2.2.2.1) st:=by
 unfold G5;obtain⟨y,U,b2,b3⟩:=gu b h.hj;obtain⟨x,O,a2,a3⟩:=gu a (i:=i) (by have:=h.hi;omega);refine av (cF U ?_);have mi:=h.mi;rw[b2]at mi;have c:MI (iY r) a.toList b.toList (o.push y).toList (a.toList.drop i) (b.toList.drop (j+1)):=by
  rw[Array.toList_push];exact mi.oneY m.sb (hy y U)
 by_cases I:(j+1==b.size)=true
 ·rw[q07 I];exact aB ⟨rfl,GL m c (.inl I)⟩
 ·rw[q06 I]
  have hj:=h.hj;have hj1:j+1<b.size:=by have:=cS I;simp at hj;omega
  have L:((b.toList.drop (j+1)).take (b.size-(j+1)))=b.toList.drop (j+1):=by have:=yE (l:=b.toList) (j+1);simpa using this
  refine av (cF O (av (qT m.C hk (m.ha _ a3) ⋯ (by simp;omega) (by rw[L];exact λp M=>m.hb p (q0I M)) (by rw[L];exact m.sb.sublist (List.drop_sublist _ _)) λe he T f2=>?_)));rw[L]at T f2;dsimp only;have Z:∀p,p∈(b.toList.drop (j+1)).take e->∀q,q∈a.toList.drop i->r p<=r q:=λp M q z=>by
   have R:r p<r x:=T p M;have:=nZ m.sa a2 q z;omega
  have S:∀q,q∈b.toList.drop (j+1+e)->r x<=r q:=λq z=>by
   have R:=mO (f2 q (by rw[List.drop_drop];exact z));exact R
  by_cases D:e>0
  ·rw[q07 D]
   have B:MI (iY r) a.toList b.toList (o.push y++b.extract (j+1) (j+1+e)).toList (a.toList.drop i) (b.toList.drop (j+1+e)):=by
    rw[q0V,oi];rw[ka b.toList (j+1) e]at c;exact c.takeY m.sb Z
   by_cases n:(j+1+e==b.size)=true
   ·rw[q07 n];exact aB ⟨rfl,GL m B (.inl n)⟩
   ·rw[q06 n]
    exact Ei m ⟨B,h.hi,by have:=cS n;simp;omega⟩ (by simp;omega) λY G q z=>by rw[O]at G;cases G;exact S q z
  ·rw[q06 D]
   have e0:e=0:=by omega
   subst e0;exact Ei m ⟨c,h.hi,by simp;omega⟩ (by simp;omega) λY G q z=>by rw[O]at G;cases G;exact S q z
theorem F6(m:MC prog w A J a₀ kd r a b){st:SortSt}(hk:kindOf st=kd){o:PA}{i j g u v:Nat}(h:jT r a b o i j) :
  fu c⁻¹ A E J (Gr a b o i j g u v) (λt st'=>SG st st'/\match t with
   | .done s=>PG r a b (o.size+1) s.1 s.2.1 s.2.2.1 s.2.2.2.1
   | .yield s=>s.1=none/\PG r a b (o.size+1) s.1 s.2.1 s.2.2.1 s.2.2.2.1) st:=by
 unfold Gr;refine av (oh λst' B=>?_);have z:kindOf st'=kd:=B.1.trans hk;obtain⟨y,O,b2,b3⟩:=gu b h.hj;have hi:=h.hi;have hi0:i+1<a.size:=by simpa using hi
 have L:((a.toList.drop i).take (a.size-i))=a.toList.drop i:=by have:=yE (l:=a.toList) i;simpa using this
 refine av (cF O (av (qT m.C z (m.hb _ b3) ⋯ (by simp;omega) (by rw[L];exact λp M=>m.ha p (q0I M)) (by rw[L];exact m.sa.sublist (List.drop_sublist _ _)) λe he S f2=>?_)));rw[L]at S f2;dsimp only;have Z:∀p,p∈(a.toList.drop i).take e->∀q,q∈b.toList.drop j->r p<=r q:=λp M q x=>by
  have Y:r p<=r y:=S p M;have:=nZ m.sb b2 q x;omega
 have R:∀q,q∈a.toList.drop (i+e)->r y<=r q:=λq x=>by
  have Y:r y<r q:=mO (f2 q (by rw[List.drop_drop];exact x));omega
 by_cases D:e>0
 ·rw[q07 D]
  have n:MI (iY r) a.toList b.toList (o++a.extract i (i+e)).toList (a.toList.drop (i+e)) (b.toList.drop j):=by
   rw[q0V,oi];have mi:=h.mi;rw[ka a.toList i e]at mi;exact mi.takeX m.sa Z
  by_cases I:(i+e+1==a.size)=true
  ·rw[q07 I];exact aB ⟨B,G' m n I⟩
  ·rw[q06 I]
   by_cases c:(i+e==a.size)=true
   ·rw[q07 c];exact aB ⟨B,GL m n (.inr c)⟩
   ·rw[q06 c]
    refine bX (Ez (k:=o.size) m z ⟨n,by have:=cS I;have:=cS c;simp;omega,h.hj⟩ (by simp) λT G q x=>by rw[O]at G;cases G;exact R q x) λt U q=>⟨by rw[q.1];exact B,q.2⟩
 ·rw[q06 D]
  have e0:e=0:=by omega
  subst e0;exact bX (Ez (k:=o.size) m z h (Lb _) λT G q x=>by rw[O]at G;cases G;exact R q x) λt U q=>⟨by rw[q.1];exact B,q.2⟩
theorem SG.trans(h:SG x y)(k:SG y z):SG x z:=⟨k.1.trans h.1,k.2.1.trans h.2.1,k.2.2.1.trans h.2.2.1,k.2.2.2.trans h.2.2.2⟩
theorem GM(m:MC prog w A J a₀ kd r a b){st:SortSt}(hk:kindOf st=kd){s:L0}(h:jT r a b s.2.1 s.2.2.1 s.2.2.2.1) :
  fu c⁻¹ A E J (Hd a b s) (λt st'=>SG st st'/\match t with
   | .done u=>∃z,u.1=some z/\jt r a b z
   | .yield u=>u.1=none/\jT r a b u.2.1 u.2.2.1 u.2.2.2.1/\s.2.1.size+1<=u.2.1.size) st:=by
 unfold Hd;refine av (bX (fb (I:=λx c st'=>st'=st/\c.1=none/\jT r a b c.2.1 c.2.2.1 c.2.2.2.1/\s.2.1.size+x<=c.2.1.size)
  (Q:=λc st'=>st'=st/\PG r a b (s.2.1.size+1) c.1 c.2.1 c.2.2.1 c.2.2.2.1) ?s1 ?e1 ⟨rfl,rfl,h,Lb _⟩) ?p1)
 case e1=>
  rintro c st' ⟨rfl,G,l,D⟩;have:=l.lt;omega
 case s1=>
  rintro x c st' _ D ⟨rfl,G,l,L⟩;refine bX (F7 m hk l) λt e q=>?_;obtain⟨rfl,q⟩:=q;cases t with
  |done u=>
   refine⟨rfl,?_⟩;dsimp only at q
   revert q;unfold PG;cases u.1 with
   |some z=>exact id
   |none=>exact λq=>⟨q.1,by have:=q.2;omega⟩
  |yield u=>
   obtain⟨B,y⟩:=q;rw[B]at y;exact⟨rfl,B,y.1,by have:=y.2;omega⟩
 case p1=>
  rintro⟨z,o,i,j,u,v⟩ st' ⟨rfl,q⟩;cases z with
  |some z=>exact aB ⟨SG.refl _,z,rfl,q⟩
  |none=>
   obtain⟨l,L⟩:=q;dsimp only;refine av (kn λ_ M=>wpAny_rule ⟨M,?_⟩);refine av (bX (fb (I:=λx c e=>SG st' e/\c.1=none/\jT r a b c.2.1 c.2.2.1 c.2.2.2.1/\s.2.1.size+1<=c.2.1.size)
    (Q:=λc e=>SG st' e/\PG r a b (s.2.1.size+1) c.1 c.2.1 c.2.2.1 c.2.2.2.1) ?s2 ?e2 ⟨SG.refl _,rfl,l,L⟩) ?p2)
   case e2=>
    rintro c e ⟨p,G,l,D⟩;exact⟨p,by rw[G];exact⟨l,D⟩⟩
   case s2=>
    rintro x c e _ D ⟨p,G,l,L⟩;have C:∀g,fu c⁻¹ A E J (Gr a b c.2.1 c.2.2.1 c.2.2.2.1 g c.2.2.2.2.2.1 c.2.2.2.2.2.2) (λt k=>match t with
      | .done c'=>SG st' k/\PG r a b (s.2.1.size+1) c'.1 c'.2.1 c'.2.2.1 c'.2.2.2.1
      | .yield c'=>SG st' k/\c'.1=none/\jT r a b c'.2.1 c'.2.2.1 c'.2.2.2.1/\s.2.1.size+1<=c'.2.1.size) e:=by
     intro g;refine bX (F6 m (p.1.trans hk) l) λt k q=>?_;obtain⟨n,q⟩:=q;cases t with
     |done u=>
      refine⟨p.trans n,?_⟩;dsimp only at q
      revert q;unfold PG;cases u.1 with
      |some z=>exact id
      |none=>exact λq=>⟨q.1,by have:=q.2;omega⟩
     |yield u=>
      obtain⟨B,y⟩:=q;rw[B]at y;exact⟨p.trans n,B,y.1,by have:=y.2;omega⟩
    split
    ·exact bX (C _) λt k q=>by cases t<;>exact q
    ·exact bX (C _) λt k q=>by cases t<;>exact q
   case p2=>
    rintro⟨z,o2,i2,j2,g2,u2,v2⟩ e ⟨p,q⟩;cases z with
    |some z=>exact aB ⟨p,z,rfl,q⟩
    |none=>exact av (oh λk n=>aB ⟨p.trans n,rfl,q.1,q.2⟩)
theorem zP(m:MC prog w A J a₀ kd r a b){st:SortSt}(hk:kindOf st=kd){Q:PA->SortSt->Prop}(h0:∀y,b[0]?=some y->∀q,q∈a.toList->r y<=r q)
  (na:0<a.toList.length) (nb:0<b.toList.length) (h:∀l st',SG st st'->jt r a b l->Q l st'):fu c⁻¹ A E J (vQ a b) Q st:=by
 rw[wL];unfold EC
 obtain⟨y,D,C,b3⟩:=gu b nb;refine av (kn λs j=>wpAny_rule ⟨j,av (cF D ?_)⟩);have v:MI (iY r) a.toList b.toList (#[y]:PA).toList (a.toList.drop 0) (b.toList.drop 1):=by
  have:=MI.start (le:=iY r) a.toList b.toList;rw[show b.toList=y::b.toList.drop 1 from C]at this;have h2:=MI.oneY (by rw[show b.toList=y::b.toList.drop 1 from C];exact this) m.sb (h0 y D);exact h2
 by_cases o:((1:Nat)==b.size)=true
 ·rw[q07 o];exact aB (h _ _ (SG.refl _) (GL m v (.inl o)))
 ·rw[q06 o]
  by_cases g:((0:Nat)+1==a.size)=true
  ·rw[q07 g];exact aB (h _ _ (SG.refl _) (G' m v g))
  ·rw[q06 g]
   refine av (gX ?_);refine av (bX (fb (I:=λx c st'=>SG st st'/\c.1=none/\jT r a b c.2.1 c.2.2.1 c.2.2.2.1/\x+1<=c.2.1.size)
    (Q:=λc st'=>SG st st'/\∃z,c.1=some z/\jt r a b z) ?s ?e ⟨SG.refl _,rfl,⟨v,by have:=cS g;simp at na ⊢;omega,by have:=cS o;simp at nb ⊢;omega⟩,by simp⟩) ?p)
   case e=>
    rintro c st' ⟨_,L,B,G⟩;have:=B.lt;omega
   case s=>
    rintro x c st' _ G ⟨n,L,B,hz⟩;refine bX (GM m (n.1.trans hk) B) λt st2 q=>?_;obtain⟨k,q⟩:=q;cases t with
    |done u=>exact⟨n.trans k,q⟩
    |yield u=>exact⟨n.trans k,q.1,q.2.1,by have:=q.2.2;omega⟩
   case p=>
    rintro⟨z,u⟩ st' ⟨n,z',e,q⟩;dsimp only at e;subst e;exact aB (h _ _ n q)
end
def vF:PA->PA->SM PA:=sortPriv% PySem.Builtin.mergeHi
abbrev H1:=Option PA×Nat×Nat×PA×Nat×Nat
abbrev H2:=Option PA×Nat×Nat×PA×Nat×Nat×Nat
abbrev H0:=Option PA×Nat×Nat×PA×Nat
abbrev A0(a b:PA)(i j:Nat)(o:PA):PA:=a.extract 0 i++b.extract 0 j++o.reverse
abbrev F4(a b:PA)(i j:Nat)(o:PA):PA:=b.extract 0 j++a.extract 0 i++o.reverse
def Gq(a b:PA)(g:Nat)(i j:Nat)(o:PA)(m n:Nat):SM (ForInStep H1):=
 elem' b (j-1) >>= λy=>elem' a (i-1) >>= λx=>lt' y x >>= λt=>match t with
 |some t=>if t=true then elem' a (i-1) >>= λx=>
   if(i-1==0)=true then pure (.done (some (A0 a b (i-1) j (o.push x)),i-1,j,o.push x,m+1,0))
   else if m+1≥g then pure (.done (none,i-1,j,o.push x,m+1,0)) else pure (.yield (none,i-1,j,o.push x,m+1,0))
  else elem' b (j-1) >>= λy=>
   if(j-1==1)=true then pure (.done (some (F4 a b i (j-1) (o.push y)),i,j-1,o.push y,0,n+1))
   else if n+1≥g then pure (.done (none,i,j-1,o.push y,0,n+1)) else pure (.yield (none,i,j-1,o.push y,0,n+1))
 |_=>pure (.done (some (A0 a b i j o),i,j,o,m,n))
def G8(a b:PA)(i j:Nat)(o:PA)(g m n:Nat):SM (ForInStep H2):=
 elem' a (i-1) >>= λx=>if(i-1==0)=true then pure (.done (some (A0 a b (i-1) j (o.push x)),i-1,j,o.push x,g,m,n))
  else if(decide (m<7)&&decide (n<7))=true then pure (.done (none,i-1,j,o.push x,g,m,n)) else pure (.yield (none,i-1,j,o.push x,g,m,n))
def G1(a b:PA)(i j:Nat)(o:PA)(g m n:Nat):SM (ForInStep H2):=
 elem' b (j-1) >>= λy=>if(j-1==1)=true then pure (.done (some (F4 a b i (j-1) (o.push y)),i,j-1,o.push y,g,m,n))
  else elem' a (i-1) >>= λx=>im true x b 0 (j-1) (j-1-1) >>= λt=>match t with
  |some k=>if j-1-k>0 then
    if(k==1)=true then pure (.done (some (F4 a b i k (o.push y++(b.extract k (j-1)).reverse)),i,k,o.push y++(b.extract k (j-1)).reverse,g,m,j-1-k))
    else if(k==0)=true then pure (.done (some (A0 a b i k (o.push y++(b.extract k (j-1)).reverse)),i,k,o.push y++(b.extract k (j-1)).reverse,g,m,j-1-k))
    else G8 a b i k (o.push y++(b.extract k (j-1)).reverse) g m (j-1-k)
   else G8 a b i (j-1) (o.push y) g m (j-1-k)
  |_=>pure (.done (some (A0 a b i (j-1) (o.push y)),i,j-1,o.push y,g,m,n))
def lU(a b:PA)(i j:Nat)(o:PA)(g m n:Nat):SM (ForInStep H2):=
 mF g >>= λ_=>elem' b (j-1) >>= λy=>im false y a 0 i (i-1) >>= λt=>match t with
  |some k=>if i-k>0 then
    if(k==0)=true then pure (.done (some (A0 a b k j (o++(a.extract k i).reverse)),k,j,o++(a.extract k i).reverse,g,i-k,n))
    else G1 a b k j (o++(a.extract k i).reverse) g (i-k) n
   else G1 a b i j o g (i-k) n
  |_=>pure (.done (some (A0 a b i j o),i,j,o,g,m,n))
def HR(a b:PA)(s:H0):SM (ForInStep H0):=
 forIn [0:a.size+b.size] ((none,s.2.1,s.2.2.1,s.2.2.2.1,0,0):H1) (λ_ t=>Gq a b s.2.2.2.2 t.2.1 t.2.2.1 t.2.2.2.1 t.2.2.2.2.1 t.2.2.2.2.2) >>= λt=>
 match t.1 with
 |some z=>pure (.done (some z,t.2.1,t.2.2.1,t.2.2.2.1,s.2.2.2.2))
 |none=>liftM (rule "list.sort.gallop") >>= λ_=>
  forIn [0:a.size+b.size] ((none,t.2.1,t.2.2.1,t.2.2.2.1,s.2.2.2.2+1,t.2.2.2.2.1,t.2.2.2.2.2):H2) (λ_ u=>
   if u.2.2.2.2.1>1 then lU a b u.2.1 u.2.2.1 u.2.2.2.1 (u.2.2.2.2.1-1) u.2.2.2.2.2.1 u.2.2.2.2.2.2 else lU a b u.2.1 u.2.2.1 u.2.2.2.1 u.2.2.2.2.1 u.2.2.2.2.2.1 u.2.2.2.2.2.2) >>= λu=>
  match u.1 with
  |some z=>pure (.done (some z,u.2.1,u.2.2.1,u.2.2.2.1,u.2.2.2.2.1))
  |none=>mF (u.2.2.2.2.1+1) >>= λ_=>pure (.yield (none,u.2.1,u.2.2.1,u.2.2.2.1,u.2.2.2.2.1+1))
def Er(a b:PA):SM PA:=
 liftM (rule "list.sort.merge-hi") >>= λ_=>elem' a (a.size-1) >>= λx=>
 if(a.size-1==0)=true then pure (A0 a b (a.size-1) b.size #[x]) else if(b.size==1)=true then pure (F4 a b (a.size-1) b.size #[x]) else
 get >>= λst=>forIn [0:a.size+b.size] ((none,a.size-1,b.size,#[x],gallopOf st):H0) (λ_ s=>HR a b s) >>= λs=>
 match s.1 with
 |some z=>pure z
 |none=>liftM (unsupported "internal:list.sort.merge-bound":Sem PA)
theorem xC(a b:PA):vF a b=Er a b:=by
 refine aY rfl λ_=>aY rfl λy=>d_ rfl (d_ rfl (aY rfl λst=>aY (ib λ_ s=>?_) λs=>?_))
 ·refine aY (ib λ_ t=>?_) λt=>?_
  ·refine aY rfl λy=>aY rfl λx=>aY rfl λt=>?_
   rfl
  ·obtain⟨z,t⟩:=t
   cases z with
   |some z=>rfl
   |none=>
    refine aY rfl λ_=>aY (ib λ_ u=>d_ ?_ ?_) λu=>?_
    ·rfl
    ·rfl
    ·obtain⟨z,u⟩:=u
     cases z<;>rfl
 ·obtain⟨z,s⟩:=s
  cases z<;>rfl
section
variable {prog:LV}{w:LY}{A:LX}{E:LL}{J:Shared->Prop}{a₀:Array Keyed}{kd:SortKind}{r:Keyed->Nat}{a b:PA}
abbrev AL(r:Keyed->Nat):Keyed->Keyed->Prop:=λp q=>r q<=r p
theorem gF{l:List Keyed}(h:l.Pairwise (iY r)):l.reverse.Pairwise (AL r):=List.pairwise_reverse.mpr h
theorem AR{α:Type}(a:Array α)(i:Nat):(a.extract 0 i).toList=a.toList.take i:=by
 rw[Array.toList_extract];simp[List.extract]
theorem ym{α:Type}(a:Array α){k i:Nat}(h:k<=i):(a.extract k i).reverse.toList=((a.toList.take i).drop k).reverse:=by
 rw[Array.toList_reverse,Array.toList_extract];simp only[List.extract];rw[<- List.drop_take]
theorem gs(a:PA)(s:a.toList.Pairwise (iY r)){i:Nat}(h0:0<i)(h:i<=a.toList.length) :
  ∃x,a[i-1]?=some x/\(a.toList.take i).reverse=x::(a.toList.take (i-1)).reverse/\x∈a.toList/\∀q,q∈a.toList.take i->r q<=r x:=by
 have e:a.toList.take i=a.toList.take (i-1)++[a.toList[i-1]]:=by
  have:=List.take_succ_eq_append_getElem (l:=a.toList) (i:=i-1) ⋯
  rwa [show i-1+1=i by omega]at this
 refine⟨a.toList[i-1],?_,by rw[e,Ls];rfl,KY _,λq hq=>?_⟩
 ·rw[<- q0G,KL ⋯]
 ·have b:=s.sublist (List.take_sublist i _)
  rw[e]at b hq;rcases K3.mp hq with hq | hq
  ·exact(List.pairwise_append.mp b).2.2 q hq _ (List.mem_singleton_self _)
  ·rw[KP.mp hq];exact Lb _
structure MH(prog:LV)(w:LY)(A:LX)(J:Shared->Prop)(a₀:PA)(kd:SortKind)(r:Keyed->Nat)(a b:PA):Prop where
 C:si prog w A J a₀ kd r
 ha:∀p,p∈a.toList->p∈a₀.toList
 hb:∀p,p∈b.toList->p∈a₀.toList
 sa:a.toList.Pairwise (iY r)
 sb:b.toList.Pairwise (iY r)
 h0:∀y,b[0]?=some y->∀q,q∈a.toList->r y<=r q
abbrev vP(r:Keyed->Nat)(a b o:PA)(i j:Nat):Prop:=MI (AL r) a.toList.reverse b.toList.reverse o.toList (a.toList.take i).reverse (b.toList.take j).reverse
structure jY(r:Keyed->Nat)(a b o:PA)(i j:Nat):Prop where
 mi:vP r a b o i j
 hi:0<i
 hi':i<=a.toList.length
 hj:1<j
 hj':j<=b.toList.length
def PH(r:Keyed->Nat)(a b:PA)(k:Nat)(z:Option PA)(i j:Nat)(o:PA):Prop:=match z with
 |some z=>jt r a b z
 |none=>jY r a b o i j/\k<=o.size
theorem jY.lt{i:Nat}(h:jY r a b o i j):o.size<a.size+b.size:=by
 have:=h.mi.len;have h1:=h.hi;have h2:=h.hj;have e:=h.hi';have c:=h.hj'
 simp at this e c;omega
theorem pI{z:PA}{l:List Keyed}(e:z.toList=l.reverse)(h:l.Pairwise (AL r)/\l.Perm (a.toList.reverse++b.toList.reverse)):jt r a b z:=by
 unfold jt;rw[e]
 exact⟨List.pairwise_reverse.mpr h.1,(List.reverse_perm _).trans (h.2.trans ((List.reverse_perm _).append (List.reverse_perm _)))⟩
theorem GQ(m:MH prog w A J a₀ kd r a b){o:PA}{i j:Nat}(h:vP r a b o i j)(hj:i=0\/j=0):jt r a b (A0 a b i j o):=by
 rcases hj with rfl | rfl
 ·have c:MI (AL r) a.toList.reverse b.toList.reverse o.toList [] (b.toList.take j).reverse:=h
  exact pI (by simp only[A0,q0V,AR,Array.toList_reverse,Ls,Lu,LJ,LC]) (c.finY (gF m.sb))
 ·have c:MI (AL r) a.toList.reverse b.toList.reverse o.toList (a.toList.take i).reverse []:=h
  exact pI (by simp only[A0,q0V,AR,Array.toList_reverse,Ls,Lu,LJ,Lm]) (c.finX (gF m.sa))
theorem G3(m:MH prog w A J a₀ kd r a b){o:PA}{i j:Nat}(h:vP r a b o i j)(hj:j=1)(hb:0<b.toList.length):jt r a b (F4 a b i j o):=by
 subst hj;obtain⟨y,p,n,e3,e4⟩:=gs b m.sb (i:=1) ⋯ ⋯;have c:(b.toList.take 1).reverse=[y]:=by rw[n];rfl
 have g:MI (AL r) a.toList.reverse b.toList.reverse o.toList (a.toList.take i).reverse [y]:=by rw[<- c];exact h
 have k:b.toList.take 1=[y]:=by have:=q0R List.reverse c;simpa using this
 refine pI (l:=o.toList++((a.toList.take i).reverse++[y])) ?_ ?_
 ·simp only[F4,q0V,AR,Array.toList_reverse,Ls,Lu,k,List.reverse_singleton,Ln]
 ·have:=g.swap.lastX (gF m.sa) λq e=>m.h0 y p q (q0H (List.mem_reverse.mp e))
  exact⟨this.1,this.2.trans List.perm_append_comm⟩
theorem GR(m:MH prog w A J a₀ kd r a b){st:SortSt}(hk:kindOf st=kd){o:PA}{i j g u v:Nat}(h:jY r a b o i j) :
  fu c⁻¹ A E J (Gq a b g i j o u v) (λt st'=>st'=st/\match t with
   | .done s=>PH r a b (o.size+1) s.1 s.2.1 s.2.2.1 s.2.2.2.1
   | .yield s=>s.1=none/\PH r a b (o.size+1) s.1 s.2.1 s.2.2.1 s.2.2.2.1) st:=by
 unfold Gq;have h1:=h.hi;have h2:=h.hj;have z:=h.hi';have p:=h.hj'
 obtain⟨y,B,L,I,G⟩:=gs b m.sb (i:=j) ⋯ p;obtain⟨x,D,R,O,M⟩:=gs a m.sa (i:=i) ⋯ z;refine av (cF B (av (cF D (av (B6 m.C (m.hb _ I) (m.ha _ O) hk ?_)))));dsimp only;have mi:MI (AL r) a.toList.reverse b.toList.reverse o.toList (a.toList.take i).reverse (b.toList.take j).reverse:=h.mi
 by_cases n:r y<r x
 ·rw[q07 (q09 n)]
  refine av (cF D ?_);rw[R]at mi;have c:vP r a b (o.push x) (i-1) j:=by
   unfold vP;rw[Array.toList_push]
   exact mi.oneX (gF m.sa) λq l=>by have:=G q (List.mem_reverse.mp l);show r q<=r x;omega
  by_cases e:(i-1==0)=true
  ·rw[q07 e];exact aB ⟨rfl,GQ m c (.inl (eq_of_beq e))⟩
  ·rw[q06 e]
   have k:jY r a b (o.push x) (i-1) j:=⟨c,by have:=cS e;omega,⋯,h2,p⟩
   split
   ·exact aB ⟨rfl,k,by simp⟩
   ·exact aB ⟨rfl,rfl,k,by simp⟩
 ·rw[q06 (by simpa using n)]
  refine av (cF B ?_);rw[L]at mi;have c:vP r a b (o.push y) i (j-1):=by
   unfold vP;rw[Array.toList_push]
   exact mi.oneY (gF m.sb) λq l=>by have:=M q (List.mem_reverse.mp l);show r q<=r y;omega
  by_cases e:(j-1==1)=true
  ·rw[q07 e];exact aB ⟨rfl,G3 m c (eq_of_beq e) ⋯⟩
  ·rw[q06 e]
   have k:jY r a b (o.push y) i (j-1):=⟨c,h1,z,by have:=cS e;omega,⋯⟩
   split
   ·exact aB ⟨rfl,k,by simp⟩
   ·exact aB ⟨rfl,rfl,k,by simp⟩
theorem Ef(m:MH prog w A J a₀ kd r a b){st:SortSt}{o:PA}{i j g u v k:Nat}(h:jY r a b o i j)(hk:k<=o.size)(hx:∀x,a[i-1]?=some x->∀q,q∈b.toList.take j->r q<=r x) :
  fu c⁻¹ A E J (G8 a b i j o g u v) (λt st'=>st'=st/\match t with
   | .done s=>PH r a b (k+1) s.1 s.2.1 s.2.2.1 s.2.2.2.1
   | .yield s=>s.1=none/\PH r a b (k+1) s.1 s.2.1 s.2.2.1 s.2.2.2.1) st:=by
 unfold G8;have h1:=h.hi;have h2:=h.hj;have z:=h.hi';have y:=h.hj'
 obtain⟨x,n,B,a3,a4⟩:=gs a m.sa (i:=i) ⋯ z;refine av (cF n ?_);have mi:MI (AL r) a.toList.reverse b.toList.reverse o.toList (a.toList.take i).reverse (b.toList.take j).reverse:=h.mi;rw[B]at mi;have c:vP r a b (o.push x) (i-1) j:=by
  unfold vP;rw[Array.toList_push];exact mi.oneX (gF m.sa) λq p=>hx x n q (List.mem_reverse.mp p)
 by_cases e:(i-1==0)=true
 ·rw[q07 e];exact aB ⟨rfl,GQ m c (.inl (eq_of_beq e))⟩
 ·rw[q06 e]
  have l:jY r a b (o.push x) (i-1) j:=⟨c,by have:=cS e;omega,⋯,h2,y⟩
  split
  ·exact aB ⟨rfl,l,by simp;omega⟩
  ·exact aB ⟨rfl,rfl,l,by simp;omega⟩
theorem rX(l:List Keyed){k i:Nat}(h:k<=i):(l.take i).reverse=((l.take i).drop k).reverse++(l.take k).reverse:=by
 rw[<- Ls];have:=List.take_append_drop k (l.take i);rw[List.take_take,LI h]at this;rw[this]
theorem Ew(m:MH prog w A J a₀ kd r a b){st:SortSt}(hk:kindOf st=kd){o:PA}{i j g u v k:Nat}(h:jY r a b o i j)(hz:k<=o.size)(hy:∀y,b[j-1]?=some y->∀q,q∈a.toList.take i->r q<=r y) :
  fu c⁻¹ A E J (G1 a b i j o g u v) (λt st'=>st'=st/\match t with
   | .done s=>PH r a b (k+1) s.1 s.2.1 s.2.2.1 s.2.2.2.1
   | .yield s=>s.1=none/\PH r a b (k+1) s.1 s.2.1 s.2.2.1 s.2.2.2.1) st:=by
 unfold G1;have h1:=h.hi;have h2:=h.hj;have O:=h.hi';have h4:=h.hj'
 obtain⟨y,U,b2,b3,b4⟩:=gs b m.sb (i:=j) ⋯ h4;obtain⟨x,R,a2,a3,a4⟩:=gs a m.sa (i:=i) ⋯ O;refine av (cF U ?_);have mi:MI (AL r) a.toList.reverse b.toList.reverse o.toList (a.toList.take i).reverse (b.toList.take j).reverse:=h.mi;rw[b2]at mi;have c:vP r a b (o.push y) i (j-1):=by
  unfold vP;rw[Array.toList_push];exact mi.oneY (gF m.sb) λq l=>hy y U q (List.mem_reverse.mp l)
 by_cases I:(j-1==1)=true
 ·rw[q07 I];exact aB ⟨rfl,G3 m c (eq_of_beq I) ⋯⟩
 ·rw[q06 I]
  have hc':=cS I;refine av (cF R (av (qT m.C hk (m.ha _ a3) ⋯ ⋯ (by rw[LK];exact λp L=>m.hb p (q0H L)) (by rw[LK];exact m.sb.sublist (List.take_sublist _ _)) λe M T f2=>?_)));rw[LK]at T f2;dsimp only;have g1:∀p,p∈((b.toList.take (j-1)).drop e).reverse->∀q,q∈(a.toList.take i).reverse->r q<=r p:=λp L q l=>by
   have Z:r x<=r p:=mO (f2 p (List.mem_reverse.mp L));have:=a4 q (List.mem_reverse.mp l);omega
  have S:∀q,q∈b.toList.take e->r q<=r x:=λq l=>by
   have Z:r q<r x:=T q (by rw[List.take_take,LI M];exact l);omega
  by_cases D:j-1-e>0
  ·rw[q07 D]
   have B:vP r a b (o.push y++(b.extract e (j-1)).reverse) i e:=by
    unfold vP at c ⊢;rw[q0V,ym b M];rw[rX b.toList M]at c;exact c.takeY (gF m.sb) g1
   by_cases z:(e==1)=true
   ·rw[q07 z];exact aB ⟨rfl,G3 m B (eq_of_beq z) ⋯⟩
   ·rw[q06 z]
    by_cases n:(e==0)=true
    ·rw[q07 n];exact aB ⟨rfl,GQ m B (.inr (eq_of_beq n))⟩
    ·rw[q06 n]
     exact Ef m ⟨B,h1,O,by have:=cS z;have:=cS n;omega,⋯⟩ (by simp;omega) λY G q l=>by rw[R]at G;cases G;exact S q l
  ·rw[q06 D]
   have e0:e=j-1:=by omega
   subst e0;exact Ef m ⟨c,h1,O,⋯,⋯⟩ (by simp;omega) λY G q l=>by rw[R]at G;cases G;exact S q l
theorem GJ(m:MH prog w A J a₀ kd r a b){st:SortSt}(hk:kindOf st=kd){o:PA}{i j g u v:Nat}(h:jY r a b o i j) :
  fu c⁻¹ A E J (lU a b i j o g u v) (λt st'=>SG st st'/\match t with
   | .done s=>PH r a b (o.size+1) s.1 s.2.1 s.2.2.1 s.2.2.2.1
   | .yield s=>s.1=none/\PH r a b (o.size+1) s.1 s.2.1 s.2.2.1 s.2.2.2.1) st:=by
 unfold lU;refine av (oh λst' B=>?_);have l:kindOf st'=kd:=B.1.trans hk;have h1:=h.hi;have h2:=h.hj;have h3:=h.hi';have M:=h.hj'
 obtain⟨y,L,b2,b3,Z⟩:=gs b m.sb (i:=j) ⋯ M;refine av (cF L (av (qT m.C l (m.hb _ b3) ⋯ ⋯ (by rw[LK];exact λp G=>m.ha p (q0H G)) (by rw[LK];exact m.sa.sublist (List.take_sublist _ _)) λe I R f2=>?_)));rw[LK]at R f2;dsimp only;have U:∀p,p∈((a.toList.take i).drop e).reverse->∀q,q∈(b.toList.take j).reverse->r q<=r p:=λp G q c=>by
  have q1:r y<r p:=mO (f2 p (List.mem_reverse.mp G));have:=Z q (List.mem_reverse.mp c);omega
 have O:∀q,q∈a.toList.take e->r q<=r y:=λq c=>R q (by rw[List.take_take,LI I];exact c)
 by_cases x:i-e>0
 ·rw[q07 x]
  have n:vP r a b (o++(a.extract e i).reverse) e j:=by
   have mi:=h.mi;unfold vP at mi ⊢;rw[q0V,ym a I];rw[rX a.toList I]at mi;exact mi.takeX (gF m.sa) U
  by_cases D:(e==0)=true
  ·rw[q07 D];exact aB ⟨B,GQ m n (.inl (eq_of_beq D))⟩
  ·rw[q06 D]
   exact bX (Ew (k:=o.size) m l ⟨n,by have:=cS D;omega,⋯,h2,M⟩ (by simp) λS z q c=>by rw[L]at z;cases z;exact O q c) λt T q=>⟨by rw[q.1];exact B,q.2⟩
 ·rw[q06 x]
  have Y:e=i:=by omega
  subst Y;exact bX (Ew (k:=o.size) m l h (Lb _) λS z q c=>by rw[L]at z;cases z;exact O q c) λt T q=>⟨by rw[q.1];exact B,q.2⟩
theorem F9(m:MH prog w A J a₀ kd r a b){st:SortSt}(hk:kindOf st=kd){s:H0}(h:jY r a b s.2.2.2.1 s.2.1 s.2.2.1) :
  fu c⁻¹ A E J (HR a b s) (λt st'=>SG st st'/\match t with
   | .done u=>∃z,u.1=some z/\jt r a b z
   | .yield u=>u.1=none/\jY r a b u.2.2.2.1 u.2.1 u.2.2.1/\s.2.2.2.1.size+1<=u.2.2.2.1.size) st:=by
 unfold HR;refine av (bX (fb (I:=λx c st'=>st'=st/\c.1=none/\jY r a b c.2.2.2.1 c.2.1 c.2.2.1/\s.2.2.2.1.size+x<=c.2.2.2.1.size)
  (Q:=λc st'=>st'=st/\PH r a b (s.2.2.2.1.size+1) c.1 c.2.1 c.2.2.1 c.2.2.2.1) ?s1 ?e1 ⟨rfl,rfl,h,Lb _⟩) ?p1)
 case e1=>
  rintro c st' ⟨rfl,G,l,D⟩;have:=l.lt;omega
 case s1=>
  rintro x c st' _ D ⟨rfl,G,l,L⟩;refine bX (GR m hk l) λt e q=>?_;obtain⟨rfl,q⟩:=q;cases t with
  |done u=>
   refine⟨rfl,?_⟩;dsimp only at q
   revert q;unfold PH;cases u.1 with
   |some z=>exact id
   |none=>exact λq=>⟨q.1,by have:=q.2;omega⟩
  |yield u=>
   obtain⟨B,y⟩:=q;rw[B]at y;exact⟨rfl,B,y.1,by have:=y.2;omega⟩
 case p1=>
  rintro⟨z,i,j,o,u,v⟩ st' ⟨rfl,q⟩;cases z with
  |some z=>exact aB ⟨SG.refl _,z,rfl,q⟩
  |none=>
   obtain⟨l,L⟩:=q;dsimp only;refine av (kn λ_ M=>wpAny_rule ⟨M,?_⟩);refine av (bX (fb (I:=λx c e=>SG st' e/\c.1=none/\jY r a b c.2.2.2.1 c.2.1 c.2.2.1/\s.2.2.2.1.size+1<=c.2.2.2.1.size)
    (Q:=λc e=>SG st' e/\PH r a b (s.2.2.2.1.size+1) c.1 c.2.1 c.2.2.1 c.2.2.2.1) ?s2 ?e2 ⟨SG.refl _,rfl,l,L⟩) ?p2)
   case e2=>
    rintro c e ⟨p,G,l,D⟩;exact⟨p,by rw[G];exact⟨l,D⟩⟩
   case s2=>
    rintro x c e _ D ⟨p,G,l,L⟩;have C:∀g,fu c⁻¹ A E J (lU a b c.2.1 c.2.2.1 c.2.2.2.1 g c.2.2.2.2.2.1 c.2.2.2.2.2.2) (λt k=>match t with
      | .done c'=>SG st' k/\PH r a b (s.2.2.2.1.size+1) c'.1 c'.2.1 c'.2.2.1 c'.2.2.2.1
      | .yield c'=>SG st' k/\c'.1=none/\jY r a b c'.2.2.2.1 c'.2.1 c'.2.2.1/\s.2.2.2.1.size+1<=c'.2.2.2.1.size) e:=by
     intro g;refine bX (GJ m (p.1.trans hk) l) λt k q=>?_;obtain⟨n,q⟩:=q;cases t with
     |done u=>
      refine⟨p.trans n,?_⟩;dsimp only at q
      revert q;unfold PH;cases u.1 with
      |some z=>exact id
      |none=>exact λq=>⟨q.1,by have:=q.2;omega⟩
     |yield u=>
      obtain⟨B,y⟩:=q;rw[B]at y;exact⟨p.trans n,B,y.1,by have:=y.2;omega⟩
    split
    ·exact bX (C _) λt k q=>by cases t<;>exact q
    ·exact bX (C _) λt k q=>by cases t<;>exact q
   case p2=>
    rintro⟨z,i2,j2,o2,g2,u2,v2⟩ e ⟨p,q⟩;cases z with
    |some z=>exact aB ⟨p,z,rfl,q⟩
    |none=>exact av (oh λk n=>aB ⟨p.trans n,rfl,q.1,q.2⟩)
theorem Am(m:MH prog w A J a₀ kd r a b){st:SortSt}(hk:kindOf st=kd){Q:PA->SortSt->Prop}(hl:∀x,a[a.size-1]?=some x->∀q,q∈b.toList->r q<=r x)
  (na:0<a.toList.length) (nb:0<b.toList.length) (h:∀l st',SG st st'->jt r a b l->Q l st'):fu c⁻¹ A E J (vF a b) Q st:=by
 rw[xC];unfold Er
 obtain⟨x,C,G,a3,a4⟩:=gs a m.sa (i:=a.toList.length) na (Lb _);have D:a.toList.length=a.size:=by simp
 have B:b.toList.length=b.size:=by simp
 rw[D]at C G;refine av (kn λs j=>wpAny_rule ⟨j,av (cF C ?_)⟩);have v:vP r a b #[x] (a.size-1) b.size:=by
  have h1:=MI.start (le:=AL r) a.toList.reverse b.toList.reverse;have R:a.toList.reverse=x::(a.toList.take (a.size-1)).reverse:=by rw[<- G,<- D,Lp]
  have h2:MI (AL r) a.toList.reverse b.toList.reverse [] (x::(a.toList.take (a.size-1)).reverse) b.toList.reverse:=by rw[<- R];exact h1
  have O:=h2.oneX (gF m.sa) λq M=>hl x C q (List.mem_reverse.mp M);unfold vP;rw[show b.toList.take b.size=b.toList by rw[<- B,Lp]];exact O
 by_cases o:(a.size-1==0)=true
 ·rw[q07 o];exact aB (h _ _ (SG.refl _) (GQ m v (.inl (eq_of_beq o))))
 ·rw[q06 o]
  by_cases g:(b.size==1)=true
  ·rw[q07 g];exact aB (h _ _ (SG.refl _) (G3 m v (eq_of_beq g) nb))
  ·rw[q06 g]
   refine av (gX ?_);refine av (bX (fb (I:=λx c st'=>SG st st'/\c.1=none/\jY r a b c.2.2.2.1 c.2.1 c.2.2.1/\x+1<=c.2.2.2.1.size)
    (Q:=λc st'=>SG st st'/\∃z,c.1=some z/\jt r a b z) ?s ?e ⟨SG.refl _,rfl,⟨v,by have:=cS o;show 0<a.size-1;omega,by show a.size-1<=_;omega,by have:=cS g;show 1<b.size;omega,by show b.size<=_;omega⟩,by simp⟩) ?p)
   case e=>
    rintro c st' ⟨_,S,y,L⟩;have:=y.lt;omega
   case s=>
    rintro x c st' _ L ⟨n,S,y,hz⟩;refine bX (F9 m (n.1.trans hk) y) λt st2 q=>?_;obtain⟨k,q⟩:=q;cases t with
    |done u=>exact⟨n.trans k,q⟩
    |yield u=>exact⟨n.trans k,q.1,q.2.1,by have:=q.2.2;omega⟩
   case p=>
    rintro⟨z,u⟩ st' ⟨n,z',e,q⟩;dsimp only at e;subst e;exact aB (h _ _ n q)
end
section
variable {prog:LV}{w:LY}{A:LX}{E:LL}{J:Shared->Prop}{a₀:Array Keyed}{kd:SortKind}{r:Keyed->Nat}
theorem yo(s:Nat):∀(l:List Keyed) (n:Nat) (arr:PA),s+n+l.length<=arr.toList.length ->
  ((l.zipIdx n).foldl (λa (x:Keyed×Nat)=>a.setIfInBounds (s+x.2) x.1) arr).toList=arr.toList.take (s+n)++l++arr.toList.drop (s+n+l.length)
 | [],n,arr,h=>by simp
 |p::l,n,arr,h=>by
  rw[List.zipIdx_cons,List.foldl_cons,yo s l (n+1) _ (by simp at h ⊢;omega),Array.toList_setIfInBounds];dsimp only;have hlt:s+n<arr.toList.length:=by simp at h ⊢;omega
  have c:(arr.toList.set (s+n) p).take (s+(n+1))=arr.toList.take (s+n)++[p]:=by
   rw[show s+(n+1)=(s+n)+1 by omega,List.take_succ_eq_append_getElem (by simpa using hlt),List.take_set_of_le (Lb _),List.getElem_set_self]
  have b:(arr.toList.set (s+n) p).drop (s+(n+1)+l.length)=arr.toList.drop (s+n+(p::l).length):=by
   rw[List.drop_set_of_lt ⋯];congr 1;simp;omega
  rw[c,b];simp
structure SB(a₀:PA)(kd:SortKind)(st:SortSt):Prop where
 perm:(arrOf st).toList.Perm a₀.toList
 kind:kindOf st=kd
 failed:failedOf st=none
theorem rj{l u x v:List Keyed}(e:l=u++(x++v)):(l.drop u.length).take x.length=x:=by
 rw[e,List.drop_left,List.take_left]
theorem zJ{st:SortSt}{Q:Bool->SortSt->Prop}(C:si prog w A J a₀ kd r)(B:SB a₀ kd st){p1 p2:List (Nat×Nat×Nat)}{pw pw':Nat}{u x y v:List Keyed}
  (hp:(pendingOf st).toList=p1++(u.length,x.length,pw)::(u.length+x.length,y.length,pw')::p2) (ha:(arrOf st).toList=u++(x++(y++v)))
  (hx:x≠[]) (hy:y≠[]) (sx:x.Pairwise (iY r)) (sy:y.Pairwise (iY r))
  (h:∀st' z,SB a₀ kd st'->(pendingOf st').toList=p1++(u.length,x.length+y.length,pw)::p2->(arrOf st').toList=u++(z++v)->z.Perm (x++y)->z.Pairwise (iY r)->Q true st') :
  fu c⁻¹ A E J (mergeAt' p1.length) Q st:=by
 unfold mergeAt';refine av (gX ?_);have e1:(pendingOf st)[p1.length]?=some (u.length,x.length,pw):=by rw[<- q0G,hp];simp
 have e2:(pendingOf st)[p1.length+1]?=some (u.length+x.length,y.length,pw'):=by rw[<- q0G,hp];simp
 have hL:u.length+x.length+y.length<=(arrOf st).toList.length:=by rw[ha];simp;omega
 have D:∀p,p∈x++y->p∈a₀.toList:=λp c=>B.perm.mem_iff.mp (by
  rw[ha];rcases K3.mp c with q | q<;>simp[q])
 obtain⟨g,j,rfl⟩:∃g j,y=g::j:=by cases y with | nil=>exact q0Q rfl hy | cons p q=>exact⟨p,q,rfl⟩
 have ey:(arrOf st)[u.length+x.length]?=some g:=by rw[<- q0G,ha,K_ ⋯,K_ ⋯];simp
 have a2:0<x.length:=List.length_pos_iff.mpr hx;have ex:(arrOf st)[u.length+x.length-1]?=some (x[x.length-1]'⋯):=by
  rw[<- q0G,ha,K_ ⋯,K' ⋯,KL ⋯];congr 2;omega
 generalize R:(x[x.length-1]'⋯)=xl at ex;have a3:xl∈x:=by rw[<- R];exact KY _
 have lst:∀p,p∈x->r p<=r xl:=λp c=>by
  obtain⟨t,ht,e⟩:=List.mem_iff_getElem.mp c;rw[<- e,<- R];rcases Nat.lt_or_ge t (x.length-1) with q | q
  ·exact(List.pairwise_iff_getElem.mp sx) _ _ _ _ q
  ·have:t=x.length-1:=by omega
   subst this;exact Lb _
 have hd:∀q,q∈g::j->r g<=r q:=λq hq=>by
  rcases K5.mp hq with rfl | hq
  ·exact Lb _
  ·exact(List.pairwise_cons.mp sy).1 q hq
 have L:((arrOf st).toList.drop u.length).take x.length=x:=rj ha;have I:((arrOf st).toList.drop (u.length+x.length)).take (g::j).length=g::j:=by
  have:=rj (l:=(arrOf st).toList) (u:=u++x) (x:=g::j) (v:=v) (by rw[ha];simp)
  rwa [La]at this
 have o:(((pendingOf st).setIfInBounds p1.length (u.length,x.length+(g::j).length,pw)).eraseIdxIfInBounds (p1.length+1)).toList=p1++(u.length,x.length+(g::j).length,pw)::p2:=by
  rw[Array.toList_eraseIdxIfInBounds,Array.toList_setIfInBounds,hp];simp[List.eraseIdx_append_of_length_le]
 have G:∀st',SB a₀ kd st'->(pendingOf st').toList=p1++(u.length,x.length+(g::j).length,pw)::p2->arrOf st'=arrOf st->(∀p,p∈x->∀q,q∈g::j->r p<=r q)->Q true st':=λst' B' p' a' q=>
  h st' (x++(g::j)) B' p' (by rw[a',ha,Ln]) (List.Perm.refl _) (List.pairwise_append.mpr ⟨sx,sy,q⟩)
 dsimp only;rw[e1,e2];dsimp only;refine av (Gb ?_);refine av (cF ey (av (qT C B.kind (D _ (by simp)) a2 (by show u.length+x.length<=(arrOf st).toList.length;omega) (by rw[L];exact λp q=>D p (q0D _ q)) (by rw[L];exact sx) λk hk f1 f2=>?_)));rw[L]at f1 f2;dsimp only;have g1:∀p,p∈x.take k->r p<=r g:=f1;have g2:∀p,p∈x.drop k->r g<r p:=λp c=>mO (f2 p c)
 by_cases hc:(x.length-k==0)=true
 ·rw[q07 hc]
  have:x.take k=x:=q0F (by have:=eq_of_beq hc;omega);rw[this]at g1;exact aB (G _ ⟨B.perm,B.kind,B.failed⟩ o rfl λp c q hq=>Lj (g1 p c) (hd q hq))
 ·rw[q06 hc]
  have hc':=cS hc;refine av (cF (p:=xl) (by rw[show u.length+k+(x.length-k)-1=u.length+x.length-1 by omega];exact ex) (av (qT C B.kind (D _ (q0D _ a3)) (by simp) (by simpa using hL) (by rw[I];exact λp q=>D p (q0C _ q)) (by rw[I];exact sy) λn hn f3 f4=>?_)));rw[I]at f3 f4;dsimp only;have g3:∀p,p∈(g::j).take n->r p<r xl:=f3;have g4:∀p,p∈(g::j).drop n->r xl<=r p:=λp c=>mO (f4 p c)
  by_cases M:(n==0)=true
  ·rw[q07 M]
   have e0:n=0:=eq_of_beq M;subst e0;exact aB (G _ ⟨B.perm,B.kind,B.failed⟩ o rfl λp c q hq=>Lj (lst p c) (g4 q hq))
  ·rw[q06 M]
   have hn0':=cS M;have U:((arrOf st).extract (u.length+k) (u.length+x.length)).toList=x.drop k:=by
    rw[show u.length+x.length=(u.length+k)+(x.length-k) by omega,oi,<- List.drop_drop,<- List.drop_take,L]
   have T:((arrOf st).extract (u.length+x.length) (u.length+x.length+n)).toList=(g::j).take n:=by
    rw[oi];have:=q0R (List.take n) I
    rwa [List.take_take,LI hn]at this
   generalize(arrOf st).extract (u.length+k) (u.length+x.length)=aa at U ⊢;generalize(arrOf st).extract (u.length+x.length) (u.length+x.length+n)=bb at T ⊢;have la:aa.toList.length=x.length-k:=by rw[U,Lr]
   have lb:bb.toList.length=n:=by rw[T,Lq];omega
   have h0:∀y,bb[0]?=some y->∀q,q∈aa.toList->r y<=r q:=λy e q hq=>by
    rw[<- q0G,T]at e;have:y=g:=by
     rw[List.getElem?_take,q07 ⋯]at e;exact(q0S e).symm
    subst this;rw[U]at hq;exact q0P (g2 q hq)
   have hl:∀z,aa[aa.toList.length-1]?=some z->∀q,q∈bb.toList->r q<=r z:=λz e q hq=>by
    rw[<- q0G,la,U,List.getElem?_drop,show k+(x.length-k-1)=x.length-1 by omega,KL ⋯,R]at e;cases e;rw[T]at hq;exact q0P (g3 q hq)
   have a1:∀p,p∈aa.toList->p∈a₀.toList:=λp c=>D p (q0D _ (q0I (by rw[<- U];exact c)));have a0:∀p,p∈bb.toList->p∈a₀.toList:=λp c=>D p (q0C _ (q0H (by rw[<- T];exact c)));have Z:aa.toList.Pairwise (iY r):=by rw[U];exact sx.sublist (List.drop_sublist _ _)
   have Y:bb.toList.Pairwise (iY r):=by rw[T];exact sy.sublist (List.take_sublist _ _)
   have fin:∀(l:PA) (st':SortSt),kindOf st'=kd->arrOf st'=arrOf st->(pendingOf st').toList=p1++(u.length,x.length+(g::j).length,pw)::p2->failedOf st'=none->jt r aa bb l ->
     Q true (setArr st' (l.toList.zipIdx.foldl (λa (x:Keyed×Nat)=>a.setIfInBounds (u.length+k+x.2) x.1) (arrOf st'))):=by
    intro l st' k' a' p' S good;have m:=good.2;rw[U,T]at m;have ll:=m.length_eq;rw[La,Lr,Lq,LI hn]at ll;have ez:(l.toList.zipIdx.foldl (λa (x:Keyed×Nat)=>a.setIfInBounds (u.length+k+x.2) x.1) (arrOf st')).toList=u++((x.take k++l.toList++(g::j).drop n)++v):=by
     rw[yo (u.length+k) l.toList 0 _ (by rw[a'];omega),a',ha,ll];rw[show u.length+k+0=u.length+k by omega,List.take_length_add_append,List.take_append_of_le_length hk,
      show u.length+k+(x.length-k+n)=u.length+(x.length+n) by omega,List.drop_length_add_append,List.drop_length_add_append,List.drop_append_of_le_length hn]
     simp only[Ln]
    have zp:(x.take k++l.toList++(g::j).drop n).Perm (x++(g::j)):=by
     refine((m.append_left (x.take k)).append_right _).trans ?_;rw[<- Ln,List.take_append_drop,Ln,List.take_append_drop]
    refine h _ (x.take k++l.toList++(g::j).drop n) ⟨?_,k',S⟩ p' ez zp ?_
    ·have pz:(u++((x.take k++l.toList++(g::j).drop n)++v)).Perm a₀.toList:=by
      refine List.Perm.trans ?_ (show((arrOf st).toList).Perm _ from B.perm);rw[ha];refine List.Perm.append_left u ?_;rw[<- Ln x];exact zp.append_right v
     rw[<- ez]at pz;exact pz
    ·have ml:∀p,p∈l.toList->p∈x.drop k\/p∈(g::j).take n:=λp c=>K3.mp (m.mem_iff.mp c)
     refine List.pairwise_append.mpr ⟨List.pairwise_append.mpr ⟨sx.sublist (List.take_sublist _ _),good.1,λp c q hq=>?_⟩,sy.sublist (List.drop_sublist _ _),λp c q hq=>?_⟩
     ·rcases ml q hq with q1 | q1
      ·exact Lj (g1 p c) (q0P (g2 q q1))
      ·exact Lj (g1 p c) (hd q (q0H q1))
     ·rcases K3.mp c with q1 | q1
      ·exact Lj (lst p (q0H q1)) (g4 q hq)
      ·rcases ml p q1 with q2 | q2
       ·exact Lj (lst p (q0I q2)) (g4 q hq)
       ·exact Lj (q0P (g3 p q2)) (g4 q hq)
   split
   ·refine av (zP (a:=aa) (b:=bb) ⟨C,a1,a0,Z,Y,hl⟩ (by exact B.kind) h0 ⋯ ⋯ λl st' O good=>?_)
    refine av (dl (av (gX (aB ?_))));have S:failedOf st'=none:=O.2.2.2.trans B.failed;have:=fin l st' (O.1.trans B.kind) O.2.1 (by rw[O.2.2.1];exact o) S good;show Q (failedOf st').isNone _;rw[S];exact this
   ·refine av (Am (a:=aa) (b:=bb) ⟨C,a1,a0,Z,Y,h0⟩ (by exact B.kind) (by simpa using hl) ⋯ ⋯ λl st' O good=>?_)
    refine av (dl (av (gX (aB ?_))));have S:failedOf st'=none:=O.2.2.2.trans B.failed;have:=fin l st' (O.1.trans B.kind) O.2.1 (by rw[O.2.2.1];exact o) S good;show Q (failedOf st').isNone _;rw[S];exact this
end
abbrev As:=Option (Option Nat)×Nat
abbrev Ds:=Option (Option Nat)×Nat×Nat
def F3(lo a n:Nat):SM As:=forIn [a:n] ((none,a):As) λ_ s=>ltAt' (lo+s.2) (lo+s.2-1) >>= λt=>match t with
 |some t=>if t=true then pure (.done (none,s.2)) else pure (.yield (none,s.2+1))
 |_=>pure (.done (some none,s.2))
def Ev(lo m n:Nat):SM (Option Nat):=reverseSlice' lo (lo+m) >>= λ_=>F3 lo m n >>= λs=>match s.1 with
 |some z=>pure z
 |none=>pure (some s.2)
def G9(lo m n:Nat):SM Ds:=forIn [m:n] ((none,m,0):Ds) λ_ s=>ltAt' (lo+s.2.1) (lo+s.2.1-1) >>= λt=>match t with
 |some t=>if t=true then
   if s.2.2>0 then reverseSlice' (lo+s.2.1-(s.2.2+1)) (lo+s.2.1) >>= λ_=>pure (.yield (none,s.2.1+1,0)) else pure (.yield (none,s.2.1+1,0))
  else ltAt' (lo+s.2.1-1) (lo+s.2.1) >>= λt=>match t with
   |some t=>if t=true then pure (.done (none,s.2.1,s.2.2)) else pure (.yield (none,s.2.1+1,s.2.2+1))
   |_=>pure (.done (some none,s.2.1,s.2.2))
 |_=>pure (.done (some none,s.2.1,s.2.2))
def FY(lo m n:Nat):SM (Option Nat):=liftM (rule "list.sort.descending-run") >>= λ_=>G9 lo (m+1) n >>= λs=>match s.1 with
 |some z=>pure z
 |none=>if s.2.2>0 then reverseSlice' (lo+s.2.1-(s.2.2+1)) (lo+s.2.1) >>= λ_=>Ev lo s.2.1 n else Ev lo s.2.1 n
def CJ(lo n:Nat):SM (Option Nat):=F3 lo 1 n >>= λs=>match s.1 with
 |some z=>pure z
 |none=>if(s.2==n)=true then pure (some s.2) else if s.2>1 then ltAt' lo (lo+s.2-1) >>= λt=>match t with
   |some t=>if t=true then pure (some s.2) else reverseSlice' lo (lo+s.2) >>= λ_=>FY lo s.2 n
   |_=>pure none
  else FY lo s.2 n
theorem my{β:Type}{rg:Std.Legacy.Range}{c:β}{f g:Nat->β->SM (ForInStep β)}(h:∀x s,f x s=g x s):(forIn rg c f:SM β)=forIn rg c g:=by
 rw[show f=g from funext λx=>funext λs=>h x s]
theorem sP(lo m n:Nat){f:As->SM (Option Nat)}(h:∀s,f s=match s.1 with | some z=>pure z | none=>pure (some s.2)){F:Nat->As->SM (ForInStep As)}
  (hF:∀x s,F x s=(ltAt' (lo+s.2) (lo+s.2-1) >>= λt=>match t with
   |some t=>if t=true then pure (.done (none,s.2)) else pure (.yield (none,s.2+1))
   |_=>pure (.done (some none,s.2)))):(reverseSlice' lo (lo+m) >>= λ_=>(forIn [m:n] ((none,m):As) F:SM As) >>= f)=Ev lo m n:=by
 unfold Ev F3;exact aY rfl λ_=>aY (my hF) h
theorem vL(lo n:Nat):countRun' lo n=CJ lo n:=by
 have a:∀(m:Nat) {G:Ds->SM (Option Nat)} {F:Nat->Ds->SM (ForInStep Ds)},
   (∀s:Ds,G s=match s.1 with
    |some z=>pure z
    |none=>if s.2.2>0 then reverseSlice' (lo+s.2.1-(s.2.2+1)) (lo+s.2.1) >>= λ_=>Ev lo s.2.1 n else Ev lo s.2.1 n) ->
   (∀x s,F x s=(ltAt' (lo+s.2.1) (lo+s.2.1-1) >>= λt=>match t with
    |some t=>if t=true then
      if s.2.2>0 then reverseSlice' (lo+s.2.1-(s.2.2+1)) (lo+s.2.1) >>= λ_=>pure (.yield (none,s.2.1+1,0)) else pure (.yield (none,s.2.1+1,0))
     else ltAt' (lo+s.2.1-1) (lo+s.2.1) >>= λt=>match t with
      |some t=>if t=true then pure (.done (none,s.2.1,s.2.2)) else pure (.yield (none,s.2.1+1,s.2.2+1))
      |_=>pure (.done (some none,s.2.1,s.2.2))
    |_=>pure (.done (some none,s.2.1,s.2.2)))) ->
   ((liftM (rule "list.sort.descending-run"):SM Unit) >>= λ_=>(forIn [m+1:n] ((none,m+1,0):Ds) F:SM Ds) >>= G)=FY lo m n:=by
  intro m G F b c;unfold FY G9;exact aY rfl λ_=>aY (my c) b
 unfold CJ F3;refine aY (my λx s=>rfl) λs=>?_;obtain⟨z,m⟩:=s;cases z with
 |some z=>rfl
 |none=>
  refine d_ rfl (d_ (aY rfl λt=>?_) ?_)
  ·cases t with
   |none=>rfl
   |some t=>
    refine d_ rfl (aY rfl λ_=>a m (λs=>?_) λx s=>rfl);obtain⟨z,m,q⟩:=s;cases z with
    |some z=>rfl
    |none=>exact d_ (aY rfl λ_=>sP lo m n (λs=>by obtain⟨z,m⟩:=s;cases z<;>rfl) λx s=>rfl) (sP lo m n (λs=>by obtain⟨z,m⟩:=s;cases z<;>rfl) λx s=>rfl)
  ·refine a m (λs=>?_) λx s=>rfl
   obtain⟨z,m,q⟩:=s;cases z with
   |some z=>rfl
   |none=>exact d_ (aY rfl λ_=>sP lo m n (λs=>by obtain⟨z,m⟩:=s;cases z<;>rfl) λx s=>rfl) (sP lo m n (λs=>by obtain⟨z,m⟩:=s;cases z<;>rfl) λx s=>rfl)
section
variable {prog:LV}{w:LY}{A:LX}{E:LL}{J:Shared->Prop}{a₀:Array Keyed}{kd:SortKind}{r:Keyed->Nat}
def Kr(r:Keyed->Nat)(xs:PA)(i:Nat):Nat:=match xs[i]? with
 |some p=>r p
 |none=>0
theorem ve{xs ys:PA}{i j:Nat}(h:xs[i]?=ys[j]?):Kr r xs i=Kr r ys j:=by unfold Kr;rw[h]
def Up(r:Keyed->Nat)(xs:PA)(lo n:Nat):Prop:=∀i j,i<=j->j<n->Kr r xs (lo+i)<=Kr r xs (lo+j)
def Dn(r:Keyed->Nat)(xs:PA)(lo n:Nat):Prop:=∀i j,i<=j->j<n->Kr r xs (lo+j)<=Kr r xs (lo+i)
structure KB(a₀:PA)(kd:SortKind)(lo:Nat)(st₀ st:SortSt):Prop where
 sb:SB a₀ kd st
 pe:pendingOf st=pendingOf st₀
 be:∀i,i<lo->(arrOf st)[i]?=(arrOf st₀)[i]?
theorem SB.size{st:SortSt}(h:SB a₀ kd st):(arrOf st).size=a₀.size:=by simpa using h.perm.length_eq
theorem KB.set{lo:Nat}{st₀ st:SortSt}(h:KB a₀ kd lo st₀ st){xs:PA}(hp:xs.Perm (arrOf st))(hb:∀i,i<lo->xs[i]?=(arrOf st)[i]?):KB a₀ kd lo st₀ (setArr st xs):=
 ⟨⟨(Array.perm_iff_toList_perm.mp hp).trans h.sb.perm,h.sb.kind,h.sb.failed⟩,h.pe,λi hi=>(hb i hi).trans (h.be i hi)⟩
theorem u0(C:si prog w A J a₀ kd r){st:SortSt}(B:SB a₀ kd st){i j:Nat}(hi:i<a₀.size)(hj:j<a₀.size){Q:Option Bool->SortSt->Prop}
  (h:Q (some (decide (Kr r (arrOf st) i<Kr r (arrOf st) j))) st):fu c⁻¹ A E J (ltAt' i j) Q st:=by
 have a:∀k,k<a₀.size->∃p,(arrOf st)[k]?=some p/\p∈a₀.toList:=λk l=>by
  have b:k<(arrOf st).size:=by rw[B.size];exact l
  exact⟨(arrOf st)[k],getElem?_pos _ k b,B.perm.mem_iff.mp (by simp)⟩
 obtain⟨p,e,m1⟩:=a i hi;obtain⟨q,c,g⟩:=a j hj;rw[ltAt'_eq];refine av (gX (av (cF e (av (cF c (B6 C m1 g B.kind ?_))))));unfold Kr at h;rw[e,c]at h;exact h
theorem mx{xs:PA}{i j:Nat}(hj:j<=xs.size)(k:Nat):Kr r (mirror xs i j ((j-i)/2)) k=if i<=k/\k<j then Kr r xs (i+j-1-k) else Kr r xs k:=by
 have e:=getElem?_mirror_all (i:=i) hj k
 by_cases h1:i<=k/\k<j
 ·rw[q07 h1]at e ⊢;exact ve e
 ·rw[q06 h1]at e ⊢;exact ve e
theorem dk{xs:PA}{i j:Nat}(hj:j<=xs.size)(heq:∀k,i<=k->k<j->Kr r xs k=Kr r xs (j-1))(k:Nat):Kr r (mirror xs i j ((j-i)/2)) k=Kr r xs k:=by
 rw[mx hj]
 split
 ·rw[heq _ ⋯ ⋯,heq k ⋯ ⋯]
 ·rfl
theorem yF{lo i j:Nat}{st₀ st:SortSt}(B:KB a₀ kd lo st₀ st)(hi:lo<=i)(hj:j<=a₀.size){Q:Unit->SortSt->Prop}
  (h:KB a₀ kd lo st₀ (setArr st (mirror (arrOf st) i j ((j-i)/2)))->Q () (setArr st (mirror (arrOf st) i j ((j-i)/2)))):fu c⁻¹ A E J (reverseSlice' i j) Q st:=by
 rw[reverseSlice'_eq];refine dl (h (B.set (mirror_perm _ _ _ _) λk hk=>?_));rw[getElem?_mirror_all (by rw[B.sb.size];exact hj),q06 ⋯]
theorem EE(C:si prog w A J a₀ kd r){st:SortSt}(B:SB a₀ kd st){lo a n:Nat}{Q:As->SortSt->Prop}(hn:lo+n<=a₀.size)(ha:1<=a)(han:a<=n)(hs:Up r (arrOf st) lo a)
  (h:∀m,a<=m->m<=n->Up r (arrOf st) lo m->(m=n\/Kr r (arrOf st) (lo+m)<Kr r (arrOf st) (lo+m-1))->Q (none,m) st):fu c⁻¹ A E J (F3 lo a n) Q st:=by
 unfold F3;refine fb (I:=λx c g=>g=st/\c=(none,x)/\Up r (arrOf st) lo x) ?s ?e ⟨rfl,rfl,hs⟩
 case e=>
  rintro c g ⟨rfl,rfl,b⟩;rw[show max a n=n by omega]at b ⊢;exact h n han (Lb _) b (.inl rfl)
 case s=>
  rintro x c g u hxn ⟨rfl,rfl,b⟩;dsimp only;refine av (u0 C B ⋯ ⋯ ?_)
  by_cases k:Kr r (arrOf g) (lo+x)<Kr r (arrOf g) (lo+x-1)
  ·simp only[k,decide_true,if_true]
   exact aB (h x u ⋯ b (.inr k))
  ·simp only[k,decide_false,q0a,if_false]
   refine aB ⟨rfl,rfl,λi j p hj=>?_⟩
   by_cases l:j<x
   ·exact b i j p l
   ·have o:j=x:=by omega
    subst o
    by_cases q:i=j
    ·subst q;exact Lb _
    ·have:=b i (j-1) ⋯ ⋯
     rw[show lo+(j-1)=lo+j-1 by omega]at this;omega
theorem Ek(C:si prog w A J a₀ kd r){st₀ st:SortSt}{lo m n:Nat}(B:KB a₀ kd lo st₀ st){Q:Option Nat->SortSt->Prop}(hn:lo+n<=a₀.size)(h1:1<=m)(hm:m<=n)(hs:Dn r (arrOf st) lo m)
  (h:∀k st',KB a₀ kd lo st₀ st'->1<=k->k<=n->Up r (arrOf st') lo k->Q (some k) st'):fu c⁻¹ A E J (Ev lo m n) Q st:=by
 unfold Ev;have a:lo+m<=(arrOf st).size:=by rw[B.sb.size];omega
 refine av (yF B (Lb _) ⋯ λb=>?_);refine av (EE C b.sb hn h1 hm (λi j hij hj=>?_) λk k1 e c _=>aB (h k _ b ⋯ e c));show Kr r (mirror (arrOf st) lo (lo+m) ((lo+m-lo)/2)) (lo+i)<=Kr r (mirror (arrOf st) lo (lo+m) ((lo+m-lo)/2)) (lo+j);rw[mx a,mx a,q07 ⋯,q07 ⋯];have:=hs (m-1-j) (m-1-i) ⋯ ⋯;rw[show lo+(lo+m)-1-(lo+i)=lo+(m-1-i) by omega,show lo+(lo+m)-1-(lo+j)=lo+(m-1-j) by omega];exact this
theorem GP(C:si prog w A J a₀ kd r){st₀ st:SortSt}{lo m n:Nat}(B:KB a₀ kd lo st₀ st){Q:Ds->SortSt->Prop}(hn:lo+n<=a₀.size)(h1:1<=m)(hm:m<=n)(hs:Dn r (arrOf st) lo m)
  (h:∀k q st',KB a₀ kd lo st₀ st'->m<=k->k<=n->Dn r (arrOf st') lo k->q+1<=k->(∀i,k-(q+1)<=i->i<k->Kr r (arrOf st') (lo+i)=Kr r (arrOf st') (lo+k-1))->Q (none,k,q) st') :
  fu c⁻¹ A E J (G9 lo m n) Q st:=by
 unfold G9;refine fb (I:=λx c st'=>∃q,c=(none,x,q)/\KB a₀ kd lo st₀ st'/\Dn r (arrOf st') lo x/\q+1<=x/\(∀i,x-(q+1)<=i->i<x->Kr r (arrOf st') (lo+i)=Kr r (arrOf st') (lo+x-1))) ?s ?e
  ⟨0,rfl,B,hs,⋯,λi h1 h2=>by congr 1;omega⟩
 case e=>
  rintro c st' ⟨q,rfl,g,a,p,l⟩;rw[show max m n=n by omega]at a p l ⊢;exact h n q st' g hm (Lb _) a p l
 case s=>
  rintro x c st' O hxn ⟨q,rfl,g,a,p,l⟩;dsimp only;have T:lo+x<=(arrOf st').size:=by rw[g.sb.size];omega
  have M:∀k,lo+x-(q+1)<=k->k<lo+x->Kr r (arrOf st') k=Kr r (arrOf st') (lo+x-1):=λk k1 k2=>by
   have:=l (k-lo) ⋯ ⋯
   rwa [show lo+(k-lo)=k by omega]at this
  have b:∀{v:PA},(∀k,Kr r v k=Kr r (arrOf st') k)->Kr r (arrOf st') (lo+x)<=Kr r (arrOf st') (lo+x-1)->Dn r v lo (x+1):=by
   intro v R hle i j G hj;rw[R,R]
   by_cases y:j<x
   ·exact a i j G y
   ·have z:j=x:=by omega
    subst z
    by_cases L:i=j
    ·subst L;exact Lb _
    ·have:=a i (j-1) ⋯ ⋯
     rw[show lo+(j-1)=lo+j-1 by omega]at this;omega
  refine av (u0 C g.sb ⋯ ⋯ ?_)
  by_cases u:Kr r (arrOf st') (lo+x)<Kr r (arrOf st') (lo+x-1)
  ·simp only[u,decide_true,if_true]
   by_cases o:q>0
   ·rw[q07 o]
    refine av (yF g ⋯ ⋯ λY=>aB ⟨0,rfl,Y,b (dk T M) (q0P u),⋯,λi h1 h2=>by congr 1;omega⟩)
   ·rw[q06 o]
    exact aB ⟨0,rfl,g,b (λ_=>rfl) (q0P u),⋯,λi h1 h2=>by congr 1;omega⟩
  ·simp only[u,decide_false,q0a,if_false]
   refine av (u0 C g.sb ⋯ ⋯ ?_)
   by_cases S:Kr r (arrOf st') (lo+x-1)<Kr r (arrOf st') (lo+x)
   ·simp only[S,decide_true,if_true]
    exact aB (h x q st' g O ⋯ a p l)
   ·simp only[S,decide_false,q0a,if_false]
    have U:Kr r (arrOf st') (lo+x)=Kr r (arrOf st') (lo+x-1):=by omega
    refine aB ⟨q+1,rfl,g,b (λ_=>rfl) ⋯,⋯,λi h1 h2=>?_⟩;rw[show lo+(x+1)-1=lo+x by omega]
    by_cases D:i=x
    ·subst D;rfl
    ·rw[U];exact l i ⋯ ⋯
theorem Ep(C:si prog w A J a₀ kd r){st₀ st:SortSt}{lo m n:Nat}(B:KB a₀ kd lo st₀ st){Q:Option Nat->SortSt->Prop}(hn:lo+n<=a₀.size)(hm:m+1<=n)(hs:Dn r (arrOf st) lo (m+1))
  (h:∀k st',KB a₀ kd lo st₀ st'->1<=k->k<=n->Up r (arrOf st') lo k->Q (some k) st'):fu c⁻¹ A E J (FY lo m n) Q st:=by
 unfold FY;refine av (kn λs j=>wpAny_rule ⟨j,?_⟩);refine av (GP C B hn ⋯ hm hs λk q st' l p e a hq v=>?_);dsimp only;have o:lo+k<=(arrOf st').size:=by rw[l.sb.size];omega
 by_cases b:q>0
 ·rw[q07 b]
  refine av (yF l ⋯ ⋯ λx=>Ek C x hn ⋯ e (λi j g u=>?_) h);have c:∀t,lo+k-(q+1)<=t->t<lo+k->Kr r (arrOf st') t=Kr r (arrOf st') (lo+k-1):=λt p e=>by
   have:=v (t-lo) ⋯ ⋯
   rwa [show lo+(t-lo)=t by omega]at this
  show Kr r (mirror (arrOf st') _ _ _) _<=Kr r (mirror (arrOf st') _ _ _) _;rw[dk o c,dk o c];exact a i j g u
 ·rw[q06 b]
  exact Ek C l hn ⋯ e a h
theorem xg(C:si prog w A J a₀ kd r){st:SortSt}{lo n:Nat}(B:SB a₀ kd st){Q:Option Nat->SortSt->Prop}(hn:lo+n<=a₀.size)(h1:1<=n)
  (h:∀k st',KB a₀ kd lo st st'->1<=k->k<=n->Up r (arrOf st') lo k->Q (some k) st'):fu c⁻¹ A E J (countRun' lo n) Q st:=by
 rw[vL];unfold CJ
 have g:KB a₀ kd lo st st:=⟨B,rfl,λ_ _=>rfl⟩;refine av (EE C B hn (Lb 1) h1 (λi j c y=>by
  have:i=j:=by omega
  subst this;exact Lb _) λm m1 v e l=>?_)
 dsimp only
 by_cases u:m=n
 ·rw[q07 (by rw[u];exact beq_self_eq_true n)]
  exact aB (h m st g m1 v e)
 ·rw[q06 (by simpa using u)]
  have b:=l.resolve_left u
  by_cases z:m>1
  ·rw[q07 z]
   refine av (u0 C B ⋯ ⋯ ?_)
   by_cases hr:Kr r (arrOf st) lo<Kr r (arrOf st) (lo+m-1)
   ·simp only[hr,decide_true,if_true]
    exact aB (h m st g m1 v e)
   ·simp only[hr,decide_false,q0a,if_false]
    have x:lo+m<=(arrOf st).size:=by rw[B.size];omega
    have all:∀k,lo<=k->k<lo+m->Kr r (arrOf st) k=Kr r (arrOf st) (lo+m-1):=λk k1 k2=>by
     have G:=e 0 (k-lo) ⋯ ⋯;have D:=e (k-lo) (m-1) ⋯ ⋯;rw[show lo+(k-lo)=k by omega]at G D;rw[show lo+(m-1)=lo+m-1 by omega]at D;rw[show lo+0=lo by omega]at G;omega
    refine av (yF g (Lb _) ⋯ λL=>Ep C L hn ⋯ (λi j c y=>?_) h);show Kr r (mirror (arrOf st) _ _ _) _<=Kr r (mirror (arrOf st) _ _ _) _;rw[dk x all,dk x all]
    by_cases hjn:j<m
    ·rw[all (lo+i) ⋯ ⋯,all (lo+j) ⋯ ⋯];exact Lb _
    ·have p:j=m:=by omega
     subst p
     by_cases a:i=j
     ·subst a;exact Lb _
     ·rw[all (lo+i) ⋯ ⋯];exact q0P b
  ·rw[q06 z]
   have I:m=1:=by omega
   subst I;refine Ep C g hn ⋯ (λi j c y=>?_) h
   by_cases a:i=j
   ·subst a;exact Lb _
   ·have q:i=0:=by omega
    have o:j=1:=by omega
    subst q;subst o
    exact q0P b
theorem qV{xs:PA}{src d:Nat}(hs:src<xs.size)(hd:d<=src)(k:Nat) :
  Kr r (bubble xs src d) k=if k=src-d then Kr r xs src else if src-d<k/\k<=src then Kr r xs (k-1) else Kr r xs k:=by
 have e:=getElem?_bubble hs d hd k
 by_cases h1:k=src-d
 ·rw[q07 h1]at e ⊢;exact ve e
 ·rw[q06 h1]at e ⊢
  by_cases h2:src-d<k/\k<=src
  ·rw[q07 h2]at e ⊢;exact ve e
  ·rw[q06 h2]at e ⊢;exact ve e
theorem Gu(C:si prog w A J a₀ kd r){st₀ st:SortSt}{lo n ok:Nat}(B:KB a₀ kd lo st₀ st){Q:Bool->SortSt->Prop}(hn:lo+n<=a₀.size)(hok:ok<=n)(hs:Up r (arrOf st) lo ok)
  (h:∀st',KB a₀ kd lo st₀ st'->Up r (arrOf st') lo n->Q true st'):fu c⁻¹ A E J (binarySort' lo n ok) Q st:=by
 rw[binarySort'_eq];refine av (bX (fb (I:=λk c st'=>c=(none,())/\KB a₀ kd lo st₀ st'/\Up r (arrOf st') lo (min k n)) (Q:=λc st'=>c=(none,())/\KB a₀ kd lo st₀ st'/\Up r (arrOf st') lo n) ?s ?e ?i) ?p)
 case p=>
  rintro c st' ⟨rfl,g,b⟩;exact aB (h st' g b)
 case i=>
  refine⟨rfl,B,λi j q L=>?_⟩
  by_cases h1:ok=0
  ·have:i=j:=by omega
   subst this;exact Lb _
  ·exact hs i j q ⋯
 case e=>
  rintro c st' ⟨O,g,b⟩;refine⟨O,g,?_⟩
  rwa [show min (max (max ok 1) n) n=n by omega]at b
 case s=>
  rintro k c st' hak hkn ⟨rfl,g,b⟩;rw[show min k n=k by omega]at b;refine av (bX (fb (I:=λx c a=>a=st'/\∃l u,c=(none,l,u)/\l<=u/\u<=k/\u-l<=k-x /\
    (∀i,i<l->Kr r (arrOf st') (lo+i)<=Kr r (arrOf st') (lo+k))/\(∀i,u<=i->i<k->Kr r (arrOf st') (lo+k)<Kr r (arrOf st') (lo+i)))
   (Q:=λc a=>a=st'/\∃l u,c=(none,l,u)/\l<=k /\
    (∀i,i<l->Kr r (arrOf st') (lo+i)<=Kr r (arrOf st') (lo+k))/\(∀i,l<=i->i<k->Kr r (arrOf st') (lo+k)<Kr r (arrOf st') (lo+i))) ?s2 ?e2 ?i2) ?p2)
  case i2=>exact⟨rfl,0,k,rfl,⋯,⋯,⋯,λi M=>by omega,λi h1 h2=>by omega⟩
  case e2=>
   rintro c a ⟨rfl,l,u,rfl,h1,h2,R,o,m⟩;have:l=u:=by omega
   subst this;exact⟨rfl,l,l,rfl,h2,o,m⟩
  case s2=>
   rintro x c a _ hxk ⟨rfl,l,u,rfl,h1,h2,R,o,m⟩;dsimp only
   by_cases D:l≥u
   ·rw[q07 D]
    have:l=u:=by omega
    subst this;exact aB ⟨rfl,l,l,rfl,h2,o,m⟩
   ·rw[q06 D]
    refine av (u0 C g.sb ⋯ ⋯ ?_)
    by_cases v:Kr r (arrOf a) (lo+k)<Kr r (arrOf a) (lo+(l+u)/2)
    ·simp only[v,decide_true,if_true]
     exact aB ⟨rfl,l,(l+u)/2,rfl,⋯,⋯,⋯,o,λi z G=>K8 v (b _ _ z G)⟩
    ·simp only[v,decide_false,q0a,if_false]
     exact aB ⟨rfl,(l+u)/2+1,u,rfl,⋯,⋯,⋯,λi z=>Lj (b i ((l+u)/2) ⋯ ⋯) (Nat.not_lt.mp v),m⟩
  case p2=>
   rintro c a ⟨rfl,l,u,rfl,h2,o,m⟩;show fu _ _ _ _ (moveDown' (lo+k) (lo+l) >>= λ_=>pure (ForInStep.yield (none,()))) _ _;rw[moveDown'_eq];have y:lo+k<(arrOf a).size:=by rw[g.sb.size];omega
   refine av (dl (aB ⟨rfl,g.set (bubble_perm _ _ _) λi M=>?_,?_⟩))
   ·rw[getElem?_bubble y _ ⋯,q06 ⋯,q06 ⋯]
   ·rw[show min (k+1) n=k+1 by omega]
    intro i j q L;show Kr r (bubble (arrOf a) (lo+k) (lo+k-(lo+l))) (lo+i)<=Kr r (bubble (arrOf a) (lo+k) (lo+k-(lo+l))) (lo+j);rw[qV y ⋯,qV y ⋯,show lo+k-(lo+k-(lo+l))=lo+l by omega]
    repeat' split
    all_goals first
     | (exfalso;omega)
     |exact Lb _
     |exact o _ ⋯
     | (rw[show lo+j-1=lo+(j-1) by omega];exact q0P (m _ ⋯ ⋯))
     | (rw[show lo+i-1=lo+(i-1) by omega,show lo+j-1=lo+(j-1) by omega];exact b _ _ ⋯ ⋯)
     | (rw[show lo+j-1=lo+(j-1) by omega];exact b _ _ ⋯ ⋯)
     |exact b _ _ ⋯ ⋯
theorem DY{xs:PA}{lo n:Nat}(hz:lo+n<=xs.size)(h:Up r xs lo n):((xs.toList.drop lo).take n).Pairwise (iY r):=by
 rw[List.pairwise_iff_getElem];intro i j l e c;have g:j<n:=by simp at e;omega
 have a:∀k (b:k<((xs.toList.drop lo).take n).length),Kr r xs (lo+k)=r ((xs.toList.drop lo).take n)[k]:=by
  intro k b;unfold Kr;rw[B1 (n:=n) (by simpa using hz) (by simp at b;omega),KL b]
 have:=h i j (q0P c) g;rw[a i l,a j e]at this;exact this
theorem KB.split{lo n:Nat}{st₀ st:SortSt}(B:KB a₀ kd lo st₀ st){u:List Keyed}{v:List Keyed}(e:(arrOf st₀).toList=u++v)(hu:u.length=lo)(hn:lo+n<=a₀.size)(hs:Up r (arrOf st) lo n) :
  ∃x v',(arrOf st).toList=u++(x++v')/\x.length=n/\x.Pairwise (iY r):=by
 have b:lo+n<=(arrOf st).size:=by rw[B.sb.size];exact hn
 refine⟨((arrOf st).toList.drop lo).take n,(arrOf st).toList.drop (lo+n),?_,by simp;omega,DY b hs⟩;have c:(arrOf st).toList.take lo=u:=by
  apply List.ext_getElem?;intro i
  by_cases a:i<lo
  ·rw[List.getElem?_take,q07 a,q0G,B.be i a,<- q0G,e,K' ⋯]
  ·rw[List.getElem?_take,q06 a,List.getElem?_eq_none ⋯]
 rw[<- List.drop_drop,List.take_append_drop,<- c,List.take_append_drop]
abbrev Pd:=Nat×Nat×Nat
def fT(r:Keyed->Nat):List Pd->List (List Keyed)->Nat->Prop
 | [],rs,_=>rs=[]
 |e::p,rs,k=>∃x rs',rs=x::rs'/\e.1=k/\e.2.1=x.length/\x≠[]/\x.Pairwise (iY r)/\fT r p rs' (k+x.length)
theorem fT.app:∀{p q:List Pd} {rs:List (List Keyed)} {k:Nat},fT r (p++q) rs k↔∃r1 r2,rs=r1++r2/\fT r p r1 k/\fT r q r2 (k+r1.flatten.length)
 | [],q,rs,k=>by
  constructor
  ·exact λh=>⟨[],rs,rfl,rfl,by simpa using h⟩
  ·rintro⟨r1,r2,rfl,h1,h2⟩
   cases(show r1=[] from h1)
   simpa using h2
 |e::p,q,rs,k=>by
  constructor
  ·rintro⟨x,rs',rfl,e1,e2,x0,xs,h⟩
   obtain⟨r1,r2,rfl,h1,h2⟩:=fT.app.mp h;exact⟨x::r1,r2,rfl,⟨x,r1,rfl,e1,e2,x0,xs,h1⟩,by rw[List.flatten_cons,La,<- Nat.add_assoc];exact h2⟩
  ·rintro⟨r1,r2,rfl,⟨x,rs',rfl,e1,e2,x0,xs,h1⟩,h2⟩
   rw[List.flatten_cons,La,<- Nat.add_assoc]at h2;exact⟨x,rs'++r2,rfl,e1,e2,x0,xs,fT.app.mpr ⟨rs',r2,rfl,h1,h2⟩⟩
theorem fT.many:∀{p:List Pd} {rs:List (List Keyed)} {k:Nat},fT r p rs k->p.length<=rs.flatten.length
 | [],rs,k,h=>by simp
 |e::p,rs,k,h=>by
  obtain⟨x,rs',rfl,e1,e2,x0,xs,h1⟩:=h;have:=fT.many h1;have:=List.length_pos_iff.mpr x0;simp;simp at *;omega
theorem fT.mod{f:Pd->Pd}(hf:∀e,(f e).1=e.1/\(f e).2.1=e.2.1):∀{p:List Pd} {i:Nat} {rs:List (List Keyed)} {k:Nat},fT r p rs k->fT r (p.modify i f) rs k
 | [],i,rs,k,h=>by simpa using h
 |e::p,0,rs,k,h=>by
  obtain⟨x,rs',rfl,e1,e2,q⟩:=h;rw[List.modify_zero_cons];exact⟨x,rs',rfl,(hf e).1.trans e1,(hf e).2.trans e2,q⟩
 |e::p,i+1,rs,k,h=>by
  obtain⟨x,rs',rfl,e1,e2,x0,xs,q⟩:=h;rw[List.modify_succ_cons];exact⟨x,rs',rfl,e1,e2,x0,xs,fT.mod hf q⟩
structure RI(a₀:PA)(kd:SortKind)(r:Keyed->Nat)(st:SortSt)(lo:Nat)(b_:List Keyed):Prop where
 sb:SB a₀ kd st
 ex:∃rs,(arrOf st).toList=rs.flatten++b_/\rs.flatten.length=lo/\fT r (pendingOf st).toList rs 0
theorem Bi{α:Type}{l:List α}{i:Nat}(h:i+1<l.length):∃p1 e1 e2 p2,l=p1++e1::e2::p2/\p1.length=i:=by
 refine⟨l.take i,l[i],l[i+1],l.drop (i+2),?_,by simp;omega⟩;have e1:=q0T (l:=l) (i:=i) ⋯;have e2:=q0T (l:=l) (i:=i+1) ⋯;rw[show i+2=i+1+1 by omega,<- e2,<- e1,List.take_append_drop]
theorem mW(C:si prog w A J a₀ kd r){st:SortSt}{lo i:Nat}{b_:List Keyed}(R:RI a₀ kd r st lo b_)(hi:i+1<(pendingOf st).size){Q:Bool->SortSt->Prop}
  (h:∀st',RI a₀ kd r st' lo b_->(pendingOf st').size+1=(pendingOf st).size->Q true st'):fu c⁻¹ A E J (mergeAt' i) Q st:=by
 obtain⟨B,rs,T,S,hr⟩:=R;obtain⟨p1,Y,U,p2,g,rfl⟩:=Bi (l:=(pendingOf st).toList) (i:=i) (by simpa using hi);rw[g]at hr;obtain⟨c,r2,rfl,h1,x,r3,rfl,k,q,m,L,y,b,rfl,j,p,G,I,o⟩:=fT.app.mp hr;obtain⟨s1,n1,w1⟩:=Y;obtain⟨s2,n2,w2⟩:=U;dsimp only at k q j p;rw[Nat.zero_add]at k j;subst k;subst q;subst j;subst p
 refine zJ C B (u:=c.flatten) (x:=x) (y:=y) (v:=b.flatten++b_) g (by rw[T];simp) m G L I λst' z B' n Z a D=>h st' ⟨B',c++z::b,by rw[Z];simp,?_,?_⟩ ?_
 ·have:=a.length_eq
  simp at this S ⊢;omega
 ·rw[n]
  refine fT.app.mpr ⟨c,z::b,rfl,h1,z,b,rfl,by simp,by have:=a.length_eq;simp at this ⊢;omega,?_,D,?_⟩
  ·intro e
   rw[e]at a;have:=a.length_eq;have:=List.length_pos_iff.mpr m;simp at *;omega
  ·have:=a.length_eq
   rw[La]at this;rw[this,<- Nat.add_assoc,Nat.zero_add];rw[Nat.zero_add]at o;exact o
 ·have O:=q0R List.length n
  have M:=q0R List.length g;simp at O M;omega
theorem xm(C:si prog w A J a₀ kd r){st:SortSt}{Q:Unit->SortSt->Prop}(B:SB a₀ kd st)(hp:pendingOf st=#[])(h1:1<=a₀.size)
  (h:∀st',SB a₀ kd st'->(arrOf st').toList.Pairwise (iY r)->Q () st'):fu c⁻¹ A E J sortRuns' Q st:=by
 rw[sortRuns'_eq];refine av (gX ?_);dsimp only;rw[B.size];generalize minRun' a₀.size a₀.size 0=mr;refine av (bX (fb (I:=λx c st'=>∃k,c=(none,k)/\x<=k/\k<=a₀.size/\∃b_,RI a₀ kd r st' k b_) (Q:=λc st'=>c=(none,a₀.size)/\∃b_,RI a₀ kd r st' a₀.size b_) ?s ?e ?i) ?p)
 case i=>exact⟨0,rfl,⋯,⋯,(arrOf st).toList,B,[],by simp,rfl,by rw[hp];rfl⟩
 case e=>
  rintro c st' ⟨k,rfl,h2,h3,R⟩;have:k=a₀.size:=by omega
  subst this;exact⟨rfl,R⟩
 case s=>
  rintro x c st' _ hx ⟨k,rfl,h2,h3,b_,R⟩;dsimp only
  by_cases hg:k≥a₀.size
  ·rw[q07 hg]
   have:k=a₀.size:=by omega
   subst this;exact aB ⟨rfl,b_,R⟩
  ·rw[q06 hg]
   refine av (xg C R.sb ⋯ ⋯ λm j B2 m1 m2 hu=>?_);dsimp only
   -- with a run of n from k on: merges,and the run is put behind the others
   have start:∀n g,KB a₀ kd k st' g->1<=n->n<=a₀.size-k->Up r (arrOf g) k n->∃y v,RI a₀ kd r g k (y++v)/\y.length=n/\y≠[]/\y.Pairwise (iY r):=by
    intro n g M S O l;obtain⟨_,D,G,o,hr⟩:=R;obtain⟨y,v,e,T,u⟩:=M.split G o ⋯ l;refine⟨y,v,⟨M.sb,D,e,o,by rw[M.pe];exact hr⟩,T,?_,u⟩;intro q;subst q;simp at T;omega
   have push:∀n g y v,1<=n->n<=a₀.size-k->RI a₀ kd r g k (y++v)->y.length=n->y≠[]->y.Pairwise (iY r) ->
     ∃lo',((none,k+n):Option Unit×Nat)=(none,lo')/\x+1<=lo'/\lo'<=a₀.size/\∃b_,RI a₀ kd r (setPending g ((pendingOf g).push (k,n,0))) lo' b_:=by
    intro n g y v S O U T Y u;obtain⟨M,D,G,o,hr⟩:=U;refine⟨k+n,rfl,⋯,⋯,v,⟨M.perm,M.kind,M.failed⟩,D++[y],?_,?_,?_⟩
    ·show(arrOf g).toList=_
     rw[G];simp
    ·simp at o ⊢;omega
    ·show fT r ((pendingOf g).push (k,n,0)).toList _ _
     rw[Array.toList_push];exact fT.app.mpr ⟨D,[y],rfl,hr,y,[],rfl,by show k=0+_;rw[o];omega,T.symm,Y,u,rfl⟩
   by_cases a1:m<mr
   ·rw[q07 a1]
    refine av (kn λ_ jj=>wpAny_rule ⟨jj,?_⟩);refine av (Gu C B2 (n:=min (a₀.size-k) mr) ⋯ ⋯ hu λg M l=>?_);rw[q06 b⁻¹];have S:1<=min (a₀.size-k) mr:=by omega
    have O:min (a₀.size-k) mr<=a₀.size-k:=by omega
    generalize min (a₀.size-k) mr=n at S O l ⊢;obtain⟨y,v,U,T,Y,u⟩:=start n g M S O l;refine av (gX ?_);cases hb:(pendingOf g).back? with
    |none=>
     dsimp only;exact av (dl (aB (push n g y v S O U T Y u)))
    |some e=>
     obtain⟨s1,l1,w1⟩:=e;dsimp only;refine av (bX (fb (I:=λ_ c b=>c=(none,())/\RI a₀ kd r b k (y++v)) (Q:=λc b=>c=(none,())/\RI a₀ kd r b k (y++v)) ?_ (λ_ _ q=>q) ⟨rfl,U⟩) ?_)
     ·rintro z c b _ _ ⟨rfl,L⟩
      refine av (gX ?_)
      by_cases hz:(pendingOf b).size>1
      ·rw[q07 hz]
       have Z:(pendingOf b).size-2<(pendingOf b).size:=by omega
       rw[getElem?_pos (pendingOf b) _ Z];generalize(pendingOf b)[(pendingOf b).size-2]=e;obtain⟨f1,f2,f3⟩:=e;dsimp only
       split
       ·exact aB ⟨rfl,L⟩
       ·refine av (mW C L ⋯ λa2 R5 _=>?_)
        rw[q06 b⁻¹];exact aB ⟨rfl,R5⟩
      ·rw[q06 hz];exact aB ⟨rfl,L⟩
     ·rintro c b ⟨rfl,L⟩
      dsimp only;refine av (dl (av (dl (aB (push n _ y v S O ?_ T Y u)))));obtain⟨B4,D,G,o,hr⟩:=L;exact⟨⟨B4.perm,B4.kind,B4.failed⟩,D,G,o,by
       show fT r (Array.modify _ _ _).toList _ _;rw[Array.toList_modify];refine fT.mod ?_ hr;exact λe=>⟨rfl,rfl⟩⟩
   ·rw[q06 a1]
    clear a1
    revert hu m2 m1 B2;revert j m
    intro n g M S O l;obtain⟨y,v,U,T,Y,u⟩:=start n g M S O l;refine av (gX ?_);cases hb:(pendingOf g).back? with
    |none=>
     dsimp only;exact av (dl (aB (push n g y v S O U T Y u)))
    |some e=>
     obtain⟨s1,l1,w1⟩:=e;dsimp only;refine av (bX (fb (I:=λ_ c b=>c=(none,())/\RI a₀ kd r b k (y++v)) (Q:=λc b=>c=(none,())/\RI a₀ kd r b k (y++v)) ?_ (λ_ _ q=>q) ⟨rfl,U⟩) ?_)
     ·rintro z c b _ _ ⟨rfl,L⟩
      refine av (gX ?_)
      by_cases hz:(pendingOf b).size>1
      ·rw[q07 hz]
       have Z:(pendingOf b).size-2<(pendingOf b).size:=by omega
       rw[getElem?_pos (pendingOf b) _ Z];generalize(pendingOf b)[(pendingOf b).size-2]=e;obtain⟨f1,f2,f3⟩:=e;dsimp only
       split
       ·exact aB ⟨rfl,L⟩
       ·refine av (mW C L ⋯ λa2 R5 _=>?_)
        rw[q06 b⁻¹];exact aB ⟨rfl,R5⟩
      ·rw[q06 hz];exact aB ⟨rfl,L⟩
     ·rintro c b ⟨rfl,L⟩
      dsimp only;refine av (dl (av (dl (aB (push n _ y v S O ?_ T Y u)))));obtain⟨B4,D,G,o,hr⟩:=L;exact⟨⟨B4.perm,B4.kind,B4.failed⟩,D,G,o,by
       show fT r (Array.modify _ _ _).toList _ _;rw[Array.toList_modify];refine fT.mod ?_ hr;exact λe=>⟨rfl,rfl⟩⟩
 case p=>
  rintro c st' ⟨rfl,b_,R⟩;dsimp only;have pz:(pendingOf st').size<=a₀.size:=by
   obtain⟨_,D,_,o,hr⟩:=R;have:=hr.many;simp at this o;omega
  refine av (bX (fb (I:=λx c j=>c=(none,())/\RI a₀ kd r j a₀.size b_/\(pendingOf j).size+x<=a₀.size\/c=(none,())/\RI a₀ kd r j a₀.size b_/\(pendingOf j).size<=1)
   (Q:=λc j=>c=(none,())/\RI a₀ kd r j a₀.size b_/\(pendingOf j).size<=1) ?s2 ?e2 (.inl ⟨rfl,R,pz⟩)) ?p2)
  case e2=>
   rintro c j (⟨rfl,R2,q⟩ | ⟨rfl,R2,q⟩)
   ·exact⟨rfl,R2,⋯⟩
   ·exact⟨rfl,R2,q⟩
  case s2=>
   intro x c j _ hx hI;have hc:c=(none,()):=by rcases hI with q | q<;>exact q.1
   have R2:RI a₀ kd r j a₀.size b_:=by rcases hI with q | q<;>exact q.2.1
   refine av (gX ?_)
   by_cases h2:(pendingOf j).size<=1
   ·rw[q07 h2];exact aB ⟨rfl,R2,h2⟩
   ·rw[q06 h2]
    have q:(pendingOf j).size+x<=a₀.size:=by
     rcases hI with q | q
     ·exact q.2.2
     ·exact q0Q q.2.2 h2
    refine av (mW C R2 ?_ λg U q3=>?_)
    ·repeat' split
     all_goals omega
    ·rw[q06 b⁻¹]
     exact aB (.inl ⟨rfl,U,⋯⟩)
  case p2=>
   rintro c j ⟨rfl,R2,q⟩;refine aB (h j R2.sb ?_);obtain⟨B2,D,G,o,hr⟩:=R2;have lz:(arrOf j).toList.length=a₀.size:=by simpa using B2.size
   have r0:b_=[]:=by
    have:=q0R List.length G;rw[La]at this;exact Lw.mp ⋯
   subst r0;rw[Lm]at G;rw[G];cases a0:(pendingOf j).toList with
   |nil=>rw[a0]at hr;cases(show D=[] from hr);exact .nil
   |cons e p=>
    rw[a0]at hr;obtain⟨y,a3,rfl,_,_,_,u,q'⟩:=hr;have:p=[]:=by
     have:=q0R List.length a0;exact Lw.mp (by simp at this;omega)
    subst this;cases(show a3=[] from q')
    simpa using u
end
def rk(O:KeyOrd)(f:Keyed->O.α)(l:List Keyed)(p:Keyed):Nat:=l.countP λq=>O.blt (f q) (f p)
theorem vO{α:Type}{f g:α->Bool}:∀{l:List α},(∀x,x∈l->f x=true->g x=true)->(∃x,x∈l/\f x=false/\g x=true)->l.countP f<l.countP g
 | [],_,h=>by obtain⟨x,hx,_⟩:=h;exact nomatch hx
 |x::l,h,⟨y,hy,e1,e2⟩=>by
  rw[List.countP_cons,List.countP_cons];have le:l.countP f<=l.countP g:=List.countP_mono_left λx hx=>h x (K6 _ hx);rcases K5.mp hy with rfl | hy
  ·rw[e1,e2];simp;omega
  ·have:=vO (f:=f) (g:=g) (l:=l) (λx hx=>h x (K6 _ hx)) ⟨y,hy,e1,e2⟩
   have:=h x (q0B ..);cases hf:f x<;>cases hg:g x<;>simp_all<;>omega
theorem Eg{O:KeyOrd}{f:Keyed->O.α}{l:List Keyed}{x:Keyed}(hx:x∈l):O.blt (f x) (f y)=decide (rk O f l x<rk O f l y):=by
 cases h:O.blt (f x) (f y) with
 |true=>
  refine(q09 ?_).symm;exact vO (λz _ a=>O.trans _ _ _ a h) ⟨x,hx,O.irrefl _,h⟩
 |false=>
  refine(q08 (Nat.not_lt.mpr ?_)).symm;refine List.countP_mono_left λz _ a=>?_;rcases O.negTrans _ (f x) _ a with q | q
  ·exact q
  ·rw[h]at q;exact q0Q q b⁻¹
theorem GF{O:KeyOrd}{f:Keyed->O.α}{l:List Keyed}{y:Keyed}(hy:y∈l)(h:rk O f l x<=rk O f l y):O.blt (f y) (f x)=false:=by
 rw[Eg (f:=f) (l:=l) hy];exact q08 (Nat.not_lt.mpr h)
theorem C5{h:Heap}{a:Addr}{vs:Array Value}(ho:h.get? a=some (seqObj "list" vs n)):∃e1,(h.update a (Obj.mapSeq λ_=>#[])).get? a=some (seqObj "list" #[] e1):=⟨_,get?_update_seq ho _⟩
def sort1(h:Heap)(a:Addr)(vs:LQ):Heap:=((h.update a (Obj.mapSeq λ_=>#[])).push (seqObj "tuple" vs.toArray 0)).push (seqObj "list" #[] 0)
section
variable {prog:LV}{w:LY}{A:LX}{E:LL}{s s2:LP}
abbrev with1(s2:LP)(vs:LQ):Heap:=s2.heap.push (seqObj "list" vs.toArray 0)
theorem ranks_out{O:KeyOrd}{f:Keyed->O.α}{ps:List Keyed}(hp:ps.Perm l)(h:ps.Pairwise (iY (rk O f l))):ps.Pairwise λp q=>O.blt (f q) (f p)=false:=by
 have a:∀p,p∈ps->p∈l:=λp c=>hp.mem_iff.mp c;clear hp
 induction ps with
 |nil=>exact .nil
 |cons p ps ih=>
  rw[List.pairwise_cons]at h ⊢;exact⟨λq b=>GF (a q (K6 _ b)) (h.1 q b),ih h.2 λq b=>a q (K6 _ b)⟩
end
end TS
namespace TS
open PySem PyProof.Rows PySem.MeetsSeq PySem.MeetsSeq3
open AutoSeq1 (wpAny_loadPart')
abbrev GY(s:LP)(a:Addr)(xs:Array Value)(n:Nat)(dd:LZ)(sl:Array (Option Value)):Prop:=s.heap.get? a=some {cls:=.type "list",dict:=dd,data:=.seq xs n,slots:=sl}
def lh:List Str->List Str->Bool
 | [],[]=>false
 | [],_::_=>true
 |_::_,[]=>false
 |x::xs,y::ys=>if x==y then lh xs ys else decide (x.cps.toList<y.cps.toList)
section
variable {prog:LV}{w:LY}{A:LX}{E:LL}{s:LP}
theorem uL{x y:Str}{t:Tok}{Q:LL}(h:Q (.bool (decide (x.cps.toList<y.cps.toList))) s):wpAny c⁻¹ A (richCompare .Lt (.str x t) (.str y u)) Q E s:=
 wpAny_richCompare_same (typeIs_str s x t) (typeIs_str s y u) slot_str_lt (call_str_lt ⟨(λq=>nomatch q),h⟩)
end
set_option maxHeartbeats 1600000 in
theorem Do(l b:Addr)(items items2:Array Value)(n n2:Nat)(dd dd2:LZ)(sl sl2:Array (Option Value))(k:Nat) :
  ∀(i:Nat) (ss ts:LW),ss.length+ts.length=k->i<=items.size->i<=items2.size->StrsAre (items.toList.drop i) ss->StrsAre (items2.toList.drop i) ts->Meets (Builtin.«list.__eq__.loop» ⟨[.ref l,.ref b,rawInt i,rawInt 0],[]⟩)
   (λA R s=>GY s l items n dd sl/\GY s b items2 n2 dd2 sl2 /\
    R (.ok (.ret (.bool (lh ss ts)))) s):=by
 induction k using Nat.strongRecOn with
 |_ k ih=>
 intro i ss ts T S J h1 h2 z w A R s h;obtain⟨hp,g,d,tk,os⟩:=s;obtain⟨o,p,h⟩:=h
 wp_walk using wpAny_loadPart' o,wpAny_loadPart' p
 have Y:((i:Nat):Int).toNat=i:=by simp
 rw[Y];have I:∀{xs:Array Value},xs.toList.drop i=[]->i<=xs.size->xs[i]?=none/\xs.size=i:=fun{xs} e q=>by
  have:=q0R List.length e;simp at this;exact⟨by simp;omega,⋯⟩
 have j:∀{xs:Array Value} {v:Value} {r:LQ},xs.toList.drop i=v::r->xs[i]?=some v/\i<xs.size/\xs.toList.drop (i+1)=r:=fun{xs v r} e=>by
  have m:i<xs.toList.length:=by
   have:=q0R List.length e;simp at this ⊢;omega
  have q:=q0T (l:=xs.toList) m;rw[e]at q;obtain⟨O,M⟩:=List.cons.inj q;exact⟨by rw[<- q0G,KL m,O],by simpa using m,M.symm⟩
 generalize C:items.toList.drop i=v1 at h1;generalize c:items2.toList.drop i=v2 at h2;cases h1 with
 |nil=>
  obtain⟨D,L⟩:=I C S;rw[D];cases h2 with
  |nil=>
   obtain⟨a,G⟩:=I c J;rw[a]
   wp_walk using wpAny_loadPart' o,wpAny_loadPart' p
   show R (.ok (.ret (.bool (decide (items.size<items2.size))))) _;rw[q08 ⋯];exact h
  |cons y u h2'=>
   obtain⟨a,G,_⟩:=j c;rw[a]
   wp_walk using wpAny_loadPart' o,wpAny_loadPart' p
   show R (.ok (.ret (.bool (decide (items.size<items2.size))))) _;rw[q09 ⋯];exact h
 |cons x t h1'=>
  obtain⟨D,L,d1⟩:=j C;rw[D];cases h2 with
  |nil=>
   obtain⟨a,G⟩:=I c J;rw[a]
   wp_walk using wpAny_loadPart' o,wpAny_loadPart' p
   show R (.ok (.ret (.bool (decide (items.size<items2.size))))) _;rw[q08 ⋯];exact h
  |cons y u h2'=>
   obtain⟨a,G,Z⟩:=j c;rw[a];refine q04 (eqBool_str ?_);unfold lh at h;cases B:x==y with
   |true=>
    rw[B,q07 rfl]at h
    wp_walk
    have U:((i:Int)+1)=((i+1:Nat):Int):=by push_cast;rfl
    rw[U];exact⟨plainId_quiet plain_eq_loop _,codeAny_builtin entry_eq_loop (by
     rw[Around.under_plainId plain_eq_loop _];exact ih _ (by rw[<- T];simp;omega) (i+1) _ _ rfl ⋯ ⋯ (by rw[d1];exact h1') (by rw[Z];exact h2') z w A R _ ⟨o,p,h⟩)⟩
   |false=>
    rw[B,q06 b⁻¹]at h
    wp_walk using wpAny_loadPart' o,wpAny_loadPart' p
    rw[D,a];exact q04 (uL (q05 h))
theorem tj(l b:Addr)(items items2:Array Value)(n n2:Nat)(dd dd2:LZ)(sl sl2:Array (Option Value))(ss ts:LW)(h1:StrsAre items.toList ss)(h2:StrsAre items2.toList ts) :
  Meets (Builtin.«list.__lt__» ⟨[.ref l,.ref b],[]⟩)
   (λA R s=>GY s l items n dd sl/\GY s b items2 n2 dd2 sl2 /\
    R (.ok (.ret (.bool (lh ss ts)))) s):=by
 intro a w A R s h;obtain⟨hp,g,d,tk,os⟩:=s;obtain⟨c,e,h⟩:=h
 have f3:=AutoSeq1.sub_list_list
 wp_walk using wpAny_loadPart' c,wpAny_loadPart' e
 exact⟨plainId_quiet plain_eq_loop _,codeAny_builtin entry_eq_loop (by
  rw[Around.under_plainId plain_eq_loop _];exact Do l b items items2 n n2 dd dd2 sl sl2 _ 0 ss ts rfl (Lc _) (Lc _) h1 h2 a w A R _ ⟨c,e,h⟩)⟩
abbrev cp(x:Str):List Nat:=x.cps.toList
theorem Fq(h:cp x=cp y):x=y:=by
 cases x;cases y;exact q0R _ (Array.toList_inj.mp h)
abbrev ks(l:LW):List (List Nat):=l.map cp
theorem sf:∀(l m:LW),lh l m=decide (ks l<ks m)
 | [],[]=>by simp[lh,List.lt_irrefl]
 | [],_::_=>by simp[lh]
 |_::_,[]=>by simp[lh]
 |x::l,y::m=>by
  unfold lh;have e:(ks (x::l)<ks (y::m))↔(cp x<cp y\/cp x=cp y/\ks l<ks m):=List.cons_lt_cons_iff
  by_cases h:x=y
  ·subst h
   rw[q07 (beq_self_eq_true x),sf l m];refine decide_eq_decide.mpr (e.trans ⟨λq=>?_,λq=>.inr ⟨rfl,q⟩⟩).symm;rcases q with q | q
   ·exact q0Q q (List.lt_irrefl _)
   ·exact q.2
  ·rw[q06 (by simpa using h)]
   refine decide_eq_decide.mpr (e.trans ⟨λq=>?_,λq=>.inl q⟩).symm;rcases q with q | q
   ·exact q
   ·exact q0Q (Fq q.1) h
@[reducible] def JY:KeyOrd where
 α:=List (List Nat)
 blt a b:=decide (a<b)
 irrefl x:=q08 (List.lt_irrefl x)
 trans x y z p q:=q09 (List.lt_trans (of_decide_eq_true p) (of_decide_eq_true q))
 negTrans a b c h:=by
  simp only[q0b]at *
  by_cases hab:a<b
  ·exact .inl hab
  ·exact .inr (List.lt_of_le_of_lt (List.not_lt.mp hab) h)
 total x y p q:=List.le_antisymm (List.not_lt.mp (of_decide_eq_false q)) (List.not_lt.mp (of_decide_eq_false p))
@[reducible] def ordI:KeyOrd where
 α:=Int×List (List Nat)
 blt a b:=decide (a.1<b.1\/a.1=b.1/\a.2<b.2)
 irrefl a:=by simp[List.lt_irrefl]
 trans a b c h1 h2:=by
  simp only[q0b]at *;rcases h1 with h1 | ⟨h1,h1'⟩<;>rcases h2 with h2 | ⟨h2,h2'⟩
  ·exact .inl ⋯
  ·exact .inl ⋯
  ·exact .inl ⋯
  ·exact .inr ⟨⋯,List.lt_trans h1' h2'⟩
 negTrans a b c h:=by
  simp only[q0b]at *
  by_cases h1:a.1<b.1
  ·exact .inl (.inl h1)
  ·by_cases h2:b.1<c.1
   ·exact .inr (.inl h2)
   ·rcases h with h | ⟨h,h'⟩
    ·omega
    ·by_cases hab:a.2<b.2
     ·exact .inl (.inr ⟨⋯,hab⟩)
     ·exact .inr (.inr ⟨⋯,List.lt_of_le_of_lt (List.not_lt.mp hab) h'⟩)
 total a b h1 h2:=by
  simp only[decide_eq_false_iff_not]at *;have e:a.1=b.1:=by
   have q1:¬ a.1<b.1:=λq=>h1 (.inl q);have q2:¬ b.1<a.1:=λq=>h2 (.inl q);omega
  have e2:a.2=b.2:=List.le_antisymm (List.not_lt.mp λq=>h2 (.inr ⟨e.symm,q⟩)) (List.not_lt.mp λq=>h1 (.inr ⟨e,q⟩));exact Prod.ext e e2
section
variable {prog:LV}{w:LY}{A:LX}{E:LL}{s:LP}
theorem oY:∀{vs:LQ} {ss:LW},StrsAre vs ss->vs.length=ss.length
 |_,_,.nil=>rfl
 |_,_,.cons x t h=>by simp[oY h]
theorem sv:∀{vs:LQ} {ss:LW},StrsAre vs ss->∀j (h:j<vs.length),∃t,vs[j]=.str (ss.getD j ⟨#[]⟩) t
 |_,_,.cons x t h,0,_=>⟨t,rfl⟩
 |_,_,.cons x t h,j+1,hj=>by
  obtain⟨t',e⟩:=sv h j (by simpa using hj);exact⟨t',by simpa using e⟩
theorem Az{ss:LW}(hl:s.heap.IsList l xs)(hb:s.heap.IsList b ys)(h1:StrsAre xs.toList ss)(h2:StrsAre ys.toList ts)(hu:A.units<cLine) :
  SeqAt.EqAt A s (.ref l) (.ref b) (decide (ss=ts)):=by
 by_cases g:l=b
 ·subst g
  have:xs=ys:=by
   obtain⟨o,C,_,n,D⟩:=hl;obtain⟨o',c,_,n',k⟩:=hb;rw[C]at c;cases c
   rw[D]at k;injection k
  subst this;have:ss=ts:=by rw[<- h1.strs,<- h2.strs]
  rw[q09 this];exact SeqAt.EqAt.same _
 ·refine SeqAt.EqAt.of_refs g ?_
  have v:=oY h1;have z:=oY h2;simp at v z
  by_cases r:xs.size=ys.size
  ·have q:=SeqAt.RcAt.lists (A:=A) (e:=λj=>ss.getD j ⟨#[]⟩==ts.getD j ⟨#[]⟩) hl hb r hu λj p m=>by
    obtain⟨t,y⟩:=sv h1 j (by simpa using p);obtain⟨u,x⟩:=sv h2 j (by simpa using m);rw[Array.getElem_toList]at y x;rw[y,x];exact λprog w E Q B=>eqBool_str B
   have e:((List.range xs.size).all λj=>ss.getD j ⟨#[]⟩==ts.getD j ⟨#[]⟩)=decide (ss=ts):=by
    by_cases a:ss=ts
    ·subst a;simp
    ·rw[q08 a]
     refine Bool.eq_false_iff.mpr λq=>a ?_;refine List.ext_getElem ⋯ λj p m=>?_;have:=Lz.mp q j (List.mem_range.mpr ⋯);rw[q0A,q0A,KL p,KL m,q0L,q0L]at this;exact eq_of_beq this
   rw[e]at q;exact q
  ·have a:¬ ss=ts:=λq=>r (by rw[q]at v;omega)
   rw[q08 a];exact SeqAt.RcAt.lists_lengths hl hb (by simpa using r) hu
theorem Cw{ss:LW}{Q:LL}(hl:s.heap.IsList l xs)(hb:s.heap.IsList b ys)(h1:StrsAre xs.toList ss)(h2:StrsAre ys.toList ts)(hu:A.units<cLine)
  (h:Q (.bool (lh ss ts)) s):wpAny c⁻¹ A (richCompare .Lt (.ref l) (.ref b)) Q E s:=by
 obtain⟨⟨cls,r,data,p⟩,k,o,n,m⟩:=id hl;obtain⟨⟨cls2,j,data2,g⟩,a,e,q,c⟩:=id hb;simp only at o m e c;subst o m e c;exact richCompare_meets_room (op:=.Lt) ⟨_,k,rfl⟩ ⟨_,a,rfl⟩ PySem.F.slot_list_lt PySem.F.entry_list_lt (PySem.F.args_list_lt_2 _ _) (tj l b xs ys n q r j p g ss ts h1 h2)
  ⟨k,a,show Value.bool (lh ss ts)≠Value.notImplemented/\Q (.bool (lh ss ts)) s from⟨(λx=>nomatch x),h⟩⟩ hu
end
end TS
namespace TS
open PySem PyProof.Rows PySem.MeetsSeq PySem.MeetsSeq3 PySem.W
def dy(h:Heap)(v:Value)(ss:LW):Prop:=∃a o xs n,v=.ref a/\h.get? a=some o/\o.cls=.type "tuple"/\o.data=.seq xs n/\StrsAre xs.toList ss
def TupI(h:Heap)(v:Value)(k:Int×List Str):Prop:=∃a o n l ys t,v=.ref a/\h.get? a=some o/\o.cls=.type "tuple"/\o.data=.seq #[.int k.1 t,.ref l] n/\h.IsList l ys/\StrsAre ys.toList k.2
section
variable {prog:LV}{w:LY}{A:LX}{E:LL}{s:LP}
theorem DC{Q:Bool->Shared->Prop}(hu:A.units<cLine)(hx:TupI s.heap x k)(hy:TupI s.heap y m)(h:Q (decide (k.1<m.1\/k.1=m.1/\ks k.2<ks m.2)) s) :
  wpAny c⁻¹ A (keyLt' (tuples' true) x y) Q E s:=by
 obtain⟨a,o,n,l,xs,t,rfl,z,_,B,r,h1⟩:=hx;obtain⟨a2,o2,n2,l2,ys,u,rfl,e,_,j,b,h2⟩:=hy;refine kat_lt z B e j (kat_cons (wpAny_eqBool_int ?_));cases g:k.1==m.1 with
 |false=>
  refine kat_no (oneLt_int ?_);have v:¬ k.1=m.1:=λq=>by rw[q]at g;simp at g
  rw[show decide (k.1<m.1\/k.1=m.1/\ks k.2<ks m.2)=decide (k.1<m.1) from decide_eq_decide.mpr ⟨λq=>q.elim id λq=>q0Q q.1 v,.inl⟩]at h;exact h
 |true=>
  have C:=eq_of_beq g;have p:Q (lh k.2 m.2) s:=by
   rw[sf];rw[show decide (k.1<m.1\/k.1=m.1/\ks k.2<ks m.2)=decide (ks k.2<ks m.2) from decide_eq_decide.mpr ⟨λq=>q.elim (λq=>by omega) And.right,λq=>.inr ⟨C,q⟩⟩]at h;exact h
  refine kat_yes (kat_cons (Az r b h1 h2 hu prog w _ _ ?_))
  by_cases c:k.2=m.2
  ·rw[q09 c]
   refine kat_yes (kat_nil ?_);have:lh k.2 m.2=false:=by rw[c,sf];exact q08 (List.lt_irrefl _)
   rw[this]at p;exact p
  ·rw[q08 c]
   refine kat_no ?_;rw[oneLt'_eq];simp only[show((true&&(1:Nat)==0)=true)=False by simp,if_false];exact q04 (Cw r b h1 h2 hu (wpAny_truthy_bool p))
def keyEnd(h:Heap)(a kS:Addr)(out:Array Value):Heap:=(h.update kS (Obj.mapSeq λ_=>#[])).update a (Obj.mapSeq λ_=>out)
theorem Ci{a kS:Addr}{e1:Nat}{keys:Array Value}{vs:LQ}{st:SortSt}{P:Fin->Shared->Prop}(hka:a≠kS)(hk:s.heap.get? kS=some (seqObj "list" keys e))(ha:s.heap.get? a=some (seqObj "list" #[] e1))
  (hz:keys.size<=sizeLine) (hz2:(arrOf st).size<=sizeLine) (hf:failedOf st=none) (h:P (.done (.ret .none)) {s with heap:=keyEnd s.heap a kS ((arrOf st).map (·.2))}) :
  wpAny c⁻¹ A (ksk_tail a false e1 (.ref kS) st) P E s:=by
 have b:(s.heap.update kS (Obj.mapSeq λ_=>(#[]:Array Value))).get? a=some (seqObj "list" #[] e1):=((Heap.SameBut.update s.heap kS (Obj.mapSeq λ_=>(#[]:Array Value))).2 a hka).trans ha;unfold ksk_tail;dsimp only;refine q04 (listUpdate_at hk rfl ?_ hz (Lc _));refine q04 (wpAny_letGo ?_);refine q04 (seqEpoch_at b rfl ?_);refine q04 (listUpdate_at b rfl ?_ (Lc _) (by rw[q06 b⁻¹,Array.size_map];exact Nat.le_succ_of_le hz2));rw[hf];simp only[bne_self_eq_false,q0a,if_false];exact q05 h
theorem Db{a kS:Addr}{e1:Nat}{keys:Array Value}{vs:LQ}{P:Fin->Shared->Prop}(hka:a≠kS)(hk:s.heap.get? kS=some (seqObj "list" keys e))(ha:s.heap.get? a=some (seqObj "list" #[] e1))
  (hz:vs.length<=sizeLine) (hkz:keys.size=vs.length) {kd:SortKind} {r:Keyed->Nat} (hkk:2<=vs.length->∀{Q:SortKind->Shared->Prop},Q kd s->wpAny c⁻¹ A (keyKind' keys) Q E s)
  (C:2<=vs.length->si prog w A (· = s) (keys.zip vs.toArray) kd r)
  (h:∀ps:List Keyed,ps.Perm (keys.toList.zip vs)->ps.Pairwise (iY r)->P (.done (.ret .none)) {s with heap:=keyEnd s.heap a kS (ps.map (·.2)).toArray}) :
  wpAny c⁻¹ A (ksk_end a false vs.toArray e1 (.ref kS) keys) P E s:=by
 have l:(keys.zip vs.toArray).toList=keys.toList.zip vs:=ksk_zip keys vs;have k:(keys.zip vs.toArray).size=vs.length:=by rw[Array.size_zip,hkz,KW,Nat.min_self]
 have fin:∀st:SortSt,(arrOf st).toList.Perm (keys.zip vs.toArray).toList->(arrOf st).toList.Pairwise (iY r)->failedOf st=none->wpAny c⁻¹ A (ksk_tail a false e1 (.ref kS) st) P E s:=by
  intro st j c o;refine Ci (vs:=vs) hka hk ha ⋯ (by have:=j.length_eq;simp at this;omega) o ?_;have:=h (arrOf st).toList (by rw[<- l];exact j) c
  rwa [show((arrOf st).toList.map (·.2)).toArray=(arrOf st).map (·.2) by rw[<- Array.toList_map]]at this
 have hs:vs.toArray.size=vs.length:=by simp
 unfold ksk_end;dsimp only;rw[q06 b⁻¹]
 by_cases h2:vs.toArray.size<2
 ·rw[q07 h2,q07 h2]
  refine q04 (q05 ?_);rw[StateT.run_pure];refine q04 (q05 ?_);dsimp only;refine fin (SortSt.mk' general' (keys.zip vs.toArray) #[] 7 none) (List.Perm.refl _) ?_ rfl;have g:(keys.zip vs.toArray).toList.length<2:=by simp;omega
  show(keys.zip vs.toArray).toList.Pairwise _
  match(keys.zip vs.toArray).toList,g with
  | [],_=>exact .nil
  | [v],_=>exact List.pairwise_singleton _ _
  |_::_::_,g=>simp at g;omega
 ·rw[q06 h2,q06 h2]
  refine q04 (hkk ⋯ ?_);refine q04 (q0X (xm (a₀:=keys.zip vs.toArray) (kd:=kd) (r:=r) (C ⋯) (st:=SortSt.mk' kd (keys.zip vs.toArray) #[] 7 none)
   (Q:=λ_ b=>SB (keys.zip vs.toArray) kd b/\(arrOf b).toList.Pairwise (iY r)) ⟨List.Perm.refl _,rfl,rfl⟩ rfl (by rw[k];omega) (λb n m=>⟨n,m⟩) _ rfl) ?_ λ_ _ e=>e)
  rintro⟨⟨⟩,b⟩ s' ⟨rfl,B,c⟩;exact fin b B.perm c B.failed
theorem Be{a:Addr}{f:Value}{vs:LQ}{P:Fin->Shared->Prop}(ho:s.heap.get? a=some (seqObj "list" vs.toArray n))(hz:vs.length<=sizeLine)(I:Nat->Array Value->Shared->Prop){e1:Nat}
  (ho1:(s.heap.update a (Obj.mapSeq λ_=>(#[]:Array Value))).get? a=some (seqObj "list" #[] e1)) (h0:I 0 #[] {s with heap:=sort1 s.heap a vs})
  (hI:∀i kA s',I i kA s'->kA.size=i/\s'.heap.get? a=some (seqObj "list" #[] e1)/\∃e,s'.heap.get? (s.heap.objs.size+1)=some (seqObj "list" kA e))
  (step:∀i x kA s',vs[i]?=some x->I i kA s'->wpAny c⁻¹ A (call f [x]) (λv s2=>(∃e,s2.heap.get? (s.heap.objs.size+1)=some (seqObj "list" kA e)) /\
   I (i+1) (kA.push v) {s2 with heap:=s2.heap.update (s.heap.objs.size+1) (Obj.mapSeq (·.push v))}) (λ_ _=>False) s')
  (fin:∀keys s',I vs.length keys s'->∃(kd:SortKind) (r:Keyed->Nat),(2<=vs.length->∀{Q:SortKind->Shared->Prop},Q kd s'->wpAny c⁻¹ A (keyKind' keys) Q E s') /\
   (2<=vs.length->si prog w A (· = s') (keys.zip vs.toArray) kd r) /\
   ∀ps:List Keyed,ps.Perm (keys.toList.zip vs)->ps.Pairwise (iY r)->P (.done (.ret .none)) {s' with heap:=keyEnd s'.heap a (s.heap.objs.size+1) (ps.map (·.2)).toArray}) :
  wpAny c⁻¹ A (ksk_tree a f false) P E s:=by
 have p:a<s.heap.objs.size:=Le ho;unfold ksk_tree;refine q04 (listItems_at ho rfl (q04 (listUpdate_at ho rfl ?_)));refine q04 (seqEpoch_at ho1 rfl (q04 (wpAny_newTuple (q04 (wpAny_newList (q0Y ?_))))));show wpAny c⁻¹ A _ P E {s with heap:=sort1 s.heap a vs};have z:((s.heap.update a (Obj.mapSeq λ_=>(#[]:Array Value))).push (seqObj "tuple" vs.toArray 0)).objs.size=s.heap.objs.size+1:=by rw[size_push',Heap.size_update]
 show wpAny c⁻¹ A (ksk_rest a f false vs.toArray e1 (.ref ((s.heap.update a (Obj.mapSeq λ_=>(#[]:Array Value))).push (seqObj "tuple" vs.toArray 0)).objs.size)) P E _;rw[z];unfold ksk_rest;refine q04 (wpAny_rule ?_);rw[<- Array.forIn_toList];refine q04 (ksk_fold (λi s'=>∃kA,I i kA s') vs 0 _ ⟨#[],h0⟩ ?step ?done)
 case step=>
  rintro j x s' k ⟨kA,b⟩;simp only[Nat.zero_add]at b ⊢;have hj:j<vs.length:=(KM.mp k).1;obtain⟨g,_,_⟩:=hI _ _ _ b;refine q04 (wpAny_attempt (q0X (step j x kA s' k b) (λv s2 o=>?_) λ_ _ q=>q.elim));obtain⟨⟨e,m⟩,lU⟩:=o;dsimp only;refine q04 (listUpdate_at m rfl ?_ ⋯ (Lj (Nat.le_of_eq (Array.size_push ..)) ⋯));exact q05 ⟨rfl,_,lU⟩
 case done=>
  rintro s' ⟨kA,b⟩;rw[Nat.zero_add]at b;obtain⟨g,l,e,c⟩:=hI _ _ _ b;obtain⟨kd,r,y,f2,u⟩:=fin _ _ b;refine q04 (listItems_at c rfl ?_);exact Db (K9 (Nat.lt_succ_of_lt p)) c l hz g y f2 u
end
theorem TupI.one{h:Heap}{v:Value}{k m:Int×List Str}(h1:TupI h v k)(h2:TupI h v m):k=m:=by
 obtain⟨a,o,n,l,ys,t,rfl,B,_,D,C,y⟩:=h1;obtain⟨a2,o2,n2,z,zs,u,e,g,_,b,r,x⟩:=h2;cases e;rw[B]at g;cases g
 rw[D]at b;have I:k.1=m.1:=by injection b with q;injection q with q;injection q with q _;injection q
 have G:l=z:=by injection b with q;injection q with q;injection q with _ q;injection q with q _;injection q
 subst G;obtain⟨o3,p,_,n3,w⟩:=C;obtain⟨o4,c,_,n4,j⟩:=r;rw[p]at c;cases c
 rw[w]at j;cases j
 exact Prod.ext I (by rw[<- y.strs,<- x.strs])
open Classical in
def keyI(h:Heap)(p:Keyed):Int×List (List Nat):=if q:∃k,TupI h p.1 k then(q.choose.1,ks q.choose.2) else(0,[])
theorem keyI_eq{p:Keyed}(q:TupI h p.1 k):keyI h p=(k.1,ks k.2):=by
 have a:∃k,TupI h p.1 k:=⟨k,q⟩;unfold keyI;rw[dif_pos a,a.choose_spec.one q]
section
variable {prog:LV}{w:LY}{A:LX}{E:LL}{s:LP}
theorem cmp_I{a₀:PA}(hu:A.units<cLine)(h:∀p,p∈a₀.toList->∃k,TupI s.heap p.1 k):si prog w A (· = s) a₀ (tuples' true) (rk ordI (keyI s.heap) a₀.toList):=by
 intro x c y e s' j;cases j;obtain⟨k,b⟩:=h x c;obtain⟨m,a⟩:=h y e;refine DC hu b a ⟨rfl,?_⟩;rw[<- Eg (O:=ordI) (f:=keyI s.heap) (y:=y) c,keyI_eq b,keyI_eq a]
theorem kind_I{vs:LQ}{Q:SortKind->Shared->Prop}(h:∀v,v∈vs->∃k,TupI s.heap v k)(h0:0<vs.length)(hq:Q (tuples' true) s):wpAny c⁻¹ A (keyKind' vs.toArray) Q E s:=by
 have:∃fs,KatTups s.heap vs fs/\fs.length=vs.length/\∀v,v∈fs->∃x t,v=Value.int x t:=by
  clear h0 hq
  induction vs with
  |nil=>exact⟨[],trivial,rfl,λv b=>nomatch b⟩
  |cons v vs ih=>
   obtain⟨fs,t,l,q⟩:=ih λu hu=>h u (K6 _ hu);obtain⟨k,a,o,n,ll,ys,c,rfl,e,j,g,hl,hs⟩:=h v (q0B ..);refine⟨.int k.1 c::fs,KatTups.cons e j g rfl t,by simp[l],λu hu=>?_⟩;rcases K5.mp hu with rfl | hu
   ·exact⟨_,_,rfl⟩
   ·exact q u hu
 obtain⟨fs,t,l,q⟩:=this;refine kat_kind (T:=.type "int") t ⋯ (λv b=>?_) (by rfl) hq;obtain⟨x,c,rfl⟩:=q v b;exact .now
end
end TS
namespace L2
open PySem PySem.Spec PyProof.Rows
theorem vk{α β:Type}{f:α->β}{l l':List β}(h:l.Perm l'):∀m:List α,l'=m.map f->∃m':List α,m'.Perm m/\l=m'.map f:=by
 induction h with
 |nil=>intro m e;exact⟨m,List.Perm.refl _,e⟩
 |cons x _ ih=>
  intro m e;cases m with
  |nil=>exact nomatch e
  |cons y m=>
   obtain⟨g,c⟩:=List.cons.inj e;obtain⟨m',p,q⟩:=ih m c;exact⟨y::m',p.cons y,by rw[q,g];rfl⟩
 |swap x y l=>
  intro m e
  match m,e with
  |a::b::m,e=>
   obtain⟨g,c⟩:=List.cons.inj e;obtain⟨v,u⟩:=List.cons.inj c;exact⟨b::a::m,List.Perm.swap a b m,by rw[g,v,u];rfl⟩
 |trans _ _ ih1 ih2=>
  intro m e;obtain⟨m1,o,k⟩:=ih2 m e;obtain⟨r,n,j⟩:=ih1 m1 k;exact⟨r,n.trans o,j⟩
theorem zx{h:Heap}{a b:Addr}{o:Obj}(hb:h.get? b=some o)(hne:b≠a):(TS.sort1 h a vs).get? b=some o:=by
 unfold TS.sort1;refine KN _ (KN _ ?_);rw[Heap.get?_update_ne _ _ _ _ hne];exact hb
def F8(K:LM)(H:Hp)(x:V)(k:Int×List Str):Prop:=∃a l,x=.ref a/\cR K H a [.int k.1,.ref l]/\aQ K H l (k.2.map V.str)
section
variable {X:Cx}
theorem Inv.pair{pins:LN}{σ:St}(I:Inv X pins σ H s){x:V}{k:Int×List Str}{u:Value}(h:F8 X.K H x k)(r:bG x u):TS.TupI s.heap u k:=by
 obtain⟨a,l,rfl,g,m⟩:=h;obtain rfl:u=Value.ref a:=r;obtain⟨its,b,⟨o,j,q,n,p⟩,_⟩:=I.tuple g;obtain⟨js,c,e,_⟩:=I.list m;cases b with
 |cons q1 b=>
  cases b with
  |cons q2 b=>
   cases b;obtain⟨t,rfl⟩:=q1;obtain rfl:=q2;exact⟨a,o,n,l,_,t,rfl,j,q,p,e.isList,by simpa using ie c⟩
abbrev kI(k:Int×List Str):Int×List (List Nat):=(k.1,TS.ks k.2)
end
@[reducible] def JQ:KeyOrd where
 α:=Int
 blt a b:=decide (a<b)
 irrefl a:=by simp
 trans a b c h1 h2:=by simp only[q0b]at *;omega
 negTrans a b c h:=by simp only[q0b]at *;omega
 total a b h1 h2:=by simp only[decide_eq_false_iff_not]at *;omega
end L2
namespace TS
open PySem PyProof.Rows PySem.W
section
variable {prog:LV}{w:LY}{A:LX}{E:LL}{s:LP}{T:String}{r d:Addr}{n:Nat}{P:Nat->Value->Prop}{OK:Heap->Prop}
theorem collect_src{Q:List Value->Shared->Prop}(K:KdlSrc prog w T r d n P OK)(hh:A.handled=none)(hok:OK s.heap)(hn:n<=sizeLine)
  (h:∀h' tk (acc':Array Value),(∀b o,s.heap.get? b=some o->h'.get? b=some o)->ItemsOf P acc' n->Q acc'.toList {s with heap:=h',toks:=tk}) :
  wpAny c⁻¹ A (collect (.ref r)) Q E s:=by
 have m:=K.there _ hok;unfold collect;refine q04 (wpAny_runValue (codeAny_builtin entry_proto_collect' (show wpAny _ _ (do again (.builtin "list.__iadd__" ⟨[<- newList [],.ref r],[]⟩)) _ _ s from q04 (wpAny_newList (q05 ⟨Code.quiet_builtin _ (by decide +kernel),codeAny_builtin entry_list_iadd' ?_⟩)))));show wpAny _ _ (Builtin.List.listExtendWith (.ref s.heap.objs.size) (.ref r) (.ref s.heap.objs.size)) _ _ {s with heap:=s.heap.push (seqObj "list" #[] 0)};rw[Around.under_plainId (show plainId "list.__iadd__"=true by decide +kernel) _];refine q0X (kdl_extend (s:={s with heap:=s.heap.push (seqObj "list" #[] 0)}) (R:=λc j=>c=.ok (.ret (.ref s.heap.objs.size))/\∃h' tk acc' l,j={s with heap:=h',toks:=tk}/\(∀b o,s.heap.get? b=some o->h'.get? b=some o) /\
   h'.get? s.heap.objs.size=some {cls:=.type "list",dict:=none,data:=.seq acc' l,slots:=#[]}/\ItemsOf P acc' n) K hh (K.keep _ _ hok λb _ o e=>KN _ e) s.heap.objs.size (Nat.ne_of_gt m.1) (Nat.ne_of_gt m.2) (.ref s.heap.objs.size) 0 (KU _ rfl)
  (λh' tk acc' l p k g=>⟨rfl,h',tk,acc',l,rfl,λb o u=>p b o (K9 (Le u)) (KN _ u),k,g⟩) hn) (λfin j q=>?_) λe j B=>?_
 ·have y:∀(c:Result) (j:LP),(c=.ok (.ret (.ref s.heap.objs.size))/\∃h' tk acc' l,j={s with heap:=h',toks:=tk}/\(∀b o,s.heap.get? b=some o->h'.get? b=some o) /\
    h'.get? s.heap.objs.size=some {cls:=.type "list",dict:=none,data:=.seq acc' l,slots:=#[]}/\ItemsOf P acc' n) ->
    match c with
    |Except.ok (Flow.ret v)=>wpAny c⁻¹ A (match v with
      |Value.ref a=>do
       let o <- load a
       match o.data with
        |Data.seq xs epoch=>pure xs.toList
        |x=>unsupported "internal:collect"
      |x=>unsupported "internal:collect") Q E j
    |Except.ok a=>False
    |Except.error e=>E e j:=by
   rintro c j ⟨rfl,h',tk,acc',l,rfl,p,k,g⟩;exact q04 (wpAny_load k (q05 (h h' tk acc' p g)))
  cases fin with
  |done f=>exact y _ _ q
  |again l=>exact⟨q.1,codeAny_mono q.2 λc z hr=>y c z hr⟩
 ·exact nomatch B.1
end
section
variable {prog:LV}{w:LY}{A:LX}{E:LL}{s:LP}
def KeyRun(prog:LV)(w:LY)(A:LX)(E:LL)(q:Addr)(Q:LL)(vs:LQ)(s2:LP):Prop:=
 vs.length<=sizeLine/\∀e1,((with1 s2 vs).update s2.heap.objs.size (Obj.mapSeq λ_=>(#[]:Array Value))).get? s2.heap.objs.size=some (seqObj "list" #[] e1)->∀kS,kS=(with1 s2 vs).objs.size+1 ->
   ∃(I:Nat->Array Value->Shared->Prop),I 0 #[] {s2 with heap:=sort1 (with1 s2 vs) s2.heap.objs.size vs} /\
  (∀i kA s',I i kA s'->kA.size=i/\s'.heap.get? s2.heap.objs.size=some (seqObj "list" #[] e1)/\∃e,s'.heap.get? kS=some (seqObj "list" kA e)) /\
  (∀i x kA s',vs[i]?=some x->I i kA s'->wpAny c⁻¹ A.in1.in1 (call (.ref q) [x]) (λv s3=>(∃e,s3.heap.get? kS=some (seqObj "list" kA e))/\I (i+1) (kA.push v) {s3 with heap:=s3.heap.update kS (Obj.mapSeq (·.push v))}) (λ_ _=>False) s') /\
  (∀keys s',I vs.length keys s'->∃(kd:SortKind) (r:Keyed->Nat),(2<=vs.length->∀(Q:SortKind->Shared->Prop),Q kd s'->wpAny c⁻¹ A.in1.in1 (keyKind' keys) Q E s')/\(2<=vs.length->si prog w A.in1.in1 (· = s') (keys.zip vs.toArray) kd r) /\
   ∀ps:List Keyed,ps.Perm (keys.toList.zip vs)->ps.Pairwise (iY r)->Q (.ref s2.heap.objs.size) {s' with heap:=keyEnd s'.heap s2.heap.objs.size kS (ps.map (·.2)).toArray})
theorem sorted_key(hc:wpAny c⁻¹ A.in1 (collect v) (KeyRun prog w A E q Q) E s) :
  wpAny c⁻¹ A (call (.builtin "sorted") [v] [(Str.ofString "key",.ref q)]) Q E s:=by
 refine call_function_entry_kw kind_sorted plain_sorted entry_sorted (ksk_s1 _ _) ?_;unfold Builtin.«sorted»;refine q04 (m:=checkCount "sorted" 1 1 _) (q05 ?_)
 refine q04 (q0X hc (λvs a ⟨o,h⟩=>?_) λ_ _ e=>e);refine q04 (wpAny_newList ?_ (hsz:=by omega));have b:(with1 a vs).get? a.heap.objs.size=some (seqObj "list" vs.toArray 0):=KU _ rfl;show wpAny _ _ _ _ _ {a with heap:=with1 a vs};obtain⟨B,c⟩:=C5 b;obtain⟨I,x,u,g,fin⟩:=h B c _ rfl;refine q04 (q0Y (wpAny_call_entry_kw slot_list_sort ⟨_,b,rfl⟩ entry_list_sort ?body (ksk_l1 _ _)))
 case body=>
  show wpAny c⁻¹ A.in1.in1 (Builtin.«list.sort» ⟨[.ref a.heap.objs.size],[(Str.ofString "key",.ref q)]⟩) _ _ _;rw[ksk_t1];refine Be (s:={a with heap:=with1 a vs}) b o I c x u g λkeys j p=>?_;obtain⟨n,r,z,f2,y⟩:=fin keys j p;exact⟨n,r,λh2 {Q} hq=>z h2 Q hq,f2,λps l k=>⟨_,rfl,q05 ⟨_,rfl,y ps l k⟩⟩⟩
end
end TS
namespace L2
open PySem PySem.Spec PyProof.Rows QL
abbrev vM(p a:Addr):HO:=.ext λh=>h.IsValuesView p a
section
variable {X:Cx}{pins:LN}{σ:St}{H:Hp}{s:LP}{h':Heap}
theorem Inv.adopt{t':Nat}{a:Addr}(I:Inv X pins σ H s)(k:∀b u,b≠a->s.heap.get? b=some u->h'.get? b=some u)(hn:H a=none)(hL:a≠X.env.locals)
  (h1:X.s₀.heap.objs.size<=a) (h2:∀x c,X.env.cells.lookup x=some c->c≠a) (h3:∀p∈X.pn++pins,p.1≠a) (new:cG X.prog X.w (aD H a o) h' a o):Inv X pins σ (aD H a o) {s with heap:=h',toks:=t' }:=by
 have l:∀b u,H b=some u->b≠a:=λb u e z=>by rw[z,hn]at e;cases e
 have j:∀b u,H b=some u->aD H a o b=some u:=λb u e=>by rw[ar (l b u e)];exact e
 refine I.step (g':=s.gens) (d':=s.drawn) (ch:=[a]) (λb w=>?_) (λb o _ _ g e _=>k b o (λz=>g (by simp[z])) e) (λb o _ _ g e _=>⟨o.slots,k b o (λz=>g (by simp[z])) e⟩) (λb _ g _ n=>by rw[ar (λz=>g (by simp[z]))];exact n)
  (λb o g e=>⟨o,k b o (λz=>g (by simp[z])) e⟩) (λb y e=>j _ _ e) (λb _ _ e=>j _ _ e) (λb ps e=>⟨#[],by rw[j _ _ e];simp⟩) (λm C=>?_) (λb u e=>?_) I.bare
 ·have e:b=a:=by simpa using w
  subst e;exact⟨.inr h1,hL,h2,h3⟩
 ·obtain⟨o,D,G,B,r⟩:=C
  exact⟨o,D,G,k _ o (Ne.symm hL) B,r⟩
 ·by_cases w:b=a
  ·subst w;rw[af]at e;cases e;exact new
  ·rw[ar w]at e
   refine(I.hok b u e).stay (λc v g q=>k c v ?_ q) (λc q=>j _ _ q) λc y q=>j _ _ q;rcases g with z | z
   ·rw[z];exact w
   ·exact l c _ z
end
section
variable {X:Cx}{o:Expr}{apos cpos:Pos}{td:TE}
def wO(td:TE):TE:=λσ H Q=>td σ H λx H1=>∃a kvs,x=.ref a/\H1 a=some (.dK kvs)/\∀p,H1 p=none->Q (.ref p) (aD H1 p (vM p a))
theorem AZ(ho:PE X o td)(hb:attributeBase o "values" X.env (eval o X.env)=eval o X.env)(hl:(apos.endLine==cpos.line)=true):PE X (.Call (.Attribute o "values" apos) [] [] cpos) (wO td):=by
 intro c s σ H Q I h;refine wpAny_Call_method0_late hb hl (ci (ho c s σ H _ I h) λu g ⟨x,H1,j,v,a,l,B,n,y⟩=>?_);subst B;obtain rfl:u=Value.ref a:=v;obtain⟨r,q,t3⟩:=wy j (.inl ⟨l,.inl n⟩);refine⟨"dict",_,PySem.F.plainAttrs_dict,PySem.F.slot_dict_values,PySem.F.type_dict_values,r,q,?_⟩;refine Calls.callWith_builtin rfl (evalArgs_nil3 ?_);obtain⟨z,m,vs,rel,p⟩:=rU j.hok n;refine call_meetsIn PySem.F.slot_dict_values p.typeIs PySem.F.entry_dict_values (PySem.F.args_dict_values_1 _) (meets_dict_values (cj X.prog X.w) a m) ⟨⟨_,p⟩,?_⟩;refine⟨.ref g.heap.objs.size,aD H1 g.heap.objs.size (vM g.heap.objs.size a),j.laid (t':=g.toks) (λb u e=>KN _ e) (Lb _) ?_,rfl,y _ (j.hok.fresh (Lb _))⟩;refine⟨⟨_,KU _ rfl,rfl,rfl⟩,⟨_,KU _ rfl⟩,?_⟩;rintro h1 h2 ⟨o,ho,x⟩ k;exact⟨o,k o ho,x⟩
end
end L2
namespace L2
open PySem PySem.Spec PyProof.Rows QL PySem.W
theorem pX{α β:Type}{F:α->β->Prop}:∀{l₁:List α} {l₂:List β} {i:Nat} {a:α},Paired F l₁ l₂->l₁[i]?=some a->∃b,l₂[i]?=some b/\F a b
 |_,_,_,_,.nil,e=>by simp at e
 |_,_,0,_,.cons r _,e=>by simp at e;subst e;exact⟨_,rfl,r⟩
 |_,_,i+1,a,.cons _ t,e=>by
  obtain⟨u,h1,h2⟩:=pX (i:=i) (a:=a) t (by simpa using e);exact⟨u,by simpa using h1,h2⟩
abbrev VE:=c_×Addr×List Str
abbrev HH(e:VE):c_×V:=(e.1,.ref e.2.1)
abbrev BE(e:VE):V:=.ref e.2.1
def gW(g:List Str->Int)(zs:List VE):Prop:=zs.Pairwise λa b=>TS.ordI.blt (kI (g b.2.2,b.2.2)) (kI (g a.2.2,a.2.2))=false
section
variable {X:Cx}{pins:LN}{σ:St}{H:Hp}{s:LP}{k:Nat}{f:Addr}{fd:LU}{ps:LW}{sp:Sp}{P:List Str->Prop}{g:List Str->Int}{Q:VK}{vs:LQ}{es:List VE}
theorem Dr(F:bj X.prog X.w X.K X.mg X.base bu k f fd ps sp)(hb:dO X.K fd ps [])(hr:cQ (k+2) X.A)
  (hsp:∀l ss H Q E,aQ X.K H l (ss.map V.str)->P ss->(∀t,H t=none->Q (.ref t) (aD H t (.tup [.int (g ss),.ref l])))->sp [.ref l] H Q E)
  (I:Inv X pins σ H s) (hl:vs.length=es.length) (hz:es.length<=sizeLine) (hit:∀(i:Nat) (x:Value),vs[i]?=some x->∃e:VE,es[i]?=some e/\x=Value.ref e.2.1)
  (hes:∀e,e∈es->aQ X.K H e.2.1 (e.2.2.map V.str)/\P e.2.2)
  (q:∀zs:List VE,zs.Perm es->gW g zs->∀(H':Hp) (l:Addr),az H H'->H l=none->H' l=some (.lst (zs.map BE))->Q (.ref l) H') :
  TS.KeyRun X.prog X.w X.A X.xe f (EP X pins σ Q) vs s:=by
 refine⟨⋯,λe1 a6 O a4=>?_⟩;have hw:(TS.with1 s vs).objs.size=s.heap.objs.size+1:=size_push' ..;rw[hw]at a4;have nL:∀b,s.heap.objs.size<=b->b≠X.env.locals:=λb hb z=>by have h1:(X.env.locals:Nat)<s.heap.objs.size:=I.lt;rw[<- z]at h1;exact q0Q (K8 h1 hb) (Lk _)
 have nF:∀b,s.heap.objs.size<=b->b∉X.fs:=λb hb=>I.nofs hb;have nC:∀b,s.heap.objs.size<=b->∀x c,X.env.cells.lookup x=some c->c≠b:=λb hb x c e z=>by
  obtain⟨v,o,ho,_⟩:=I.cell x c e;have h1:=Le ho;rw[z]at h1;exact q0Q (K8 h1 hb) (Lk _)
 have nP:∀b,s.heap.objs.size<=b->∀p∈X.pn++pins,p.1≠b:=λb hb p hp z=>by
  have h1:=Le (I.pin p hp).1;rw[z]at h1;exact q0Q (K8 h1 hb) (Lk _)
 have nS:X.s₀.heap.objs.size<=s.heap.objs.size:=I.sz;have a1:H s.heap.objs.size=none:=I.hok.fresh (Lb _);have Z:∀{M:Hp} {D:LP} {pins':LN},Inv X (pins++pins') σ M D->∀p∈pins,D.heap.get? p.1=some p.2/\M p.1=none/\p.1≠X.env.locals/\p.1∉X.fs/\∀v,p.2.data≠.cell v:=λJ p hp=>J.pin p (q0C _ (q0D _ hp));have C:∀(xs:Array Value) (n:Nat) (v),(seqObj "list" xs n).data≠.cell v:=λxs n v z=>by cases z
 refine⟨λi kA D=>∃(M:Hp) (G:LR) (e:Nat),Inv X (pins++[(s.heap.objs.size,seqObj "list" #[] e1),(O,seqObj "list" kA e)]) σ M D/\az H M/\kA.toList=G.map Value.ref/\G.length=i /\
  (∀(j:Nat) (t:Addr) (B:VE),G[j]?=some t->es[j]?=some B->M t=some (.tup [.int (g B.2.2),.ref B.2.1])),?_,?_,?_,?_⟩
 ·have I':Inv X pins σ H {s with heap:=TS.sort1 (TS.with1 s vs) s.heap.objs.size vs}:=by
   refine I.kept (t':=s.toks) λb u e=>?_;have:=Le e;exact zx (KN _ e) (K9 this)
  refine⟨H,[],0,I'.pins_of λp hp=>?_,az.refl _,rfl,rfl,λj t B h=>by simp at h⟩;rcases K3.mp hp with hp | hp
  ·exact I'.pin p (q0C _ hp)
  ·rcases K5.mp hp with rfl | hp
   ·exact⟨KN _ (KN _ a6),a1,nL _ (Lb _),nF _ (Lb _),C _ _⟩
   ·obtain rfl:=KP.mp hp
    refine⟨?_,I.hok.fresh ⋯,nL _ ⋯,nF _ ⋯,C _ _⟩;have a8:(((TS.with1 s vs).update s.heap.objs.size (Obj.mapSeq λ_=>(#[]:Array Value))).push (seqObj "tuple" vs.toArray 0)).objs.size=O:=by rw[size_push',Heap.size_update,hw];omega
    show(TS.sort1 (TS.with1 s vs) s.heap.objs.size vs).get? O=_;rw[<- a8];exact KU _ rfl
 ·rintro i kA D ⟨M,G,e,R,sm,hk,T,Y⟩
  refine⟨by rw[<- Array.length_toList,hk,KO];exact T,(R.pin (s.heap.objs.size,_) (by simp)).1,e,(R.pin (O,_) (by simp)).1⟩
 ·rintro i x kA D hx ⟨M,G,e,R,sm,hk,T,Y⟩
  obtain⟨B,U,rfl⟩:=hit i x hx;have a3:B∈es:=KR U;have hS:=sm.seq (hes B a3).1;have a2:=hsp B.2.1 B.2.2 M (λv H2=>∃t,v=.ref t/\M t=none/\H2=aD M t (.tup [.int (g B.2.2),.ref B.2.1])) E0 hS (hes B a3).2 λt ht=>⟨t,rfl,ht,rfl⟩;refine wpAny_call (codeAny_mono (F.run X.A.in1.in1 X.stack D M ⟨[.ref B.2.1],[]⟩ [.ref B.2.1] [.ref B.2.1] _ E0 (hr.in1.in1) R.env0.in1.in1 (hb D [.ref B.2.1] R.kIn (by have:=F.len _ _ _ _ a2;simpa using this)) (.cons rfl .nil) a2) λr s2 hq=>?_);cases r with
  |error e=>exact hq
  |ok fl=>
   cases fl with
   |next=>exact False.elim hq
   |brk=>exact False.elim hq
   |cont=>exact False.elim hq
   |ret u=>
    obtain⟨v,H2,I2,rv,t,rfl,ht,rfl⟩:=R.after hq;obtain rfl:u=Value.ref t:=rv;have p0:=I2.pin (s.heap.objs.size,seqObj "list" #[] e1) (by simp);have pk:=I2.pin (O,seqObj "list" kA e) (by simp);have Ia:Inv X (pins++[(s.heap.objs.size,seqObj "list" #[] e1)]) σ (aD M t (.tup [.int (g B.2.2),.ref B.2.1])) s2:=I2.pins_of λp hp=>by
     rcases K3.mp hp with hp | hp
     ·exact Z I2 p hp
     ·obtain rfl:=KP.mp hp;exact p0
    have Ib:=Ia.turned (t':=s2.toks) (h':=s2.heap.update O (Obj.mapSeq (·.push (Value.ref t)))) (λb o hb e=>(Heap.get?_update_ne _ _ _ _ hb).trans e) pk.2.1 (nL _ ⋯) (.inr ⋯) (nC _ ⋯) (λp hp=>by
     rcases K3.mp hp with hp | hp
     ·exact nP _ ⋯ p (q0D _ hp)
     ·rcases K3.mp hp with hp | hp
      ·exact nP _ ⋯ p (q0C _ hp)
      ·obtain rfl:=KP.mp hp;show s.heap.objs.size≠O;omega)
    obtain⟨e',a7⟩:∃e',(s2.heap.update O (Obj.mapSeq (·.push (Value.ref t)))).get? O=some (seqObj "list" (kA.push (Value.ref t)) e'):=⟨_,get?_update_seq pk.1 _⟩;refine⟨⟨e,pk.1⟩,aD M t (.tup [.int (g B.2.2),.ref B.2.1]),G++[t],e',Ib.pins_of λp hp=>?_,sm.trans (aj ht),by simp[hk],by simp[T],λj u e2 h1 h2=>?_⟩
    rotate_right
    ·by_cases hj:j<G.length
     ·rw[K' hj]at h1
      have q1:=Y j u e2 h1 h2;rw[ar (aI q1 ht)];exact q1
     ·have:j=G.length:=by have:=(KM.mp h1).1;simp at this;omega
      subst this;rw[List.getElem?_concat_length]at h1;cases h1;rw[T,U]at h2;cases h2;exact af
    ·rcases K3.mp hp with hp | hp
     ·exact Ib.pin p (q0C _ (q0D _ hp))
     ·rcases K5.mp hp with rfl | hp
      ·exact Ib.pin (s.heap.objs.size,_) (by simp)
      ·obtain rfl:=KP.mp hp
       exact⟨a7,pk.2.1,nL _ ⋯,nF _ ⋯,C _ _⟩
 ·rintro keys D ⟨M,G,e,R,sm,hk,T,Y⟩
  have ez:keys.toList.zip vs=(G.zip es).map λL=>(Value.ref L.1,Value.ref L.2.2.1):=by
   apply List.ext_getElem
   ·simp[hk];omega
   ·intro i i1 i2
    have h1:i<vs.length:=by rw[q0N]at i1;omega
    obtain⟨B,U,hx⟩:=hit i vs[i] (KL h1);obtain⟨h3,h4⟩:=KM.mp U;simp only[List.getElem_zip,List.getElem_map,hk,hx,h4]
  have tup:∀L,L∈G.zip es->TS.TupI D.heap (Value.ref L.1) (g L.2.2.2,L.2.2.2):=λL a5=>by
   obtain⟨i,hi,e⟩:=List.mem_iff_getElem.mp a5;rw[List.getElem_zip]at e;have h1:i<G.length:=by rw[q0N]at hi;omega
   have h2:i<es.length:=by rw[q0N]at hi;omega
   have q1:=Y i G[i] es[i] (KL h1) (KL h2);subst e;exact R.pair (x:=.ref G[i]) ⟨G[i],es[i].2.1,rfl,cR.of q1,sm.seq (hes _ (KY h2)).1⟩ rfl
  have all:∀v,v∈keys.toList->∃k,TS.TupI D.heap v k:=λv hv=>by
   rw[hk]at hv;obtain⟨t,ht,rfl⟩:=Lx.mp hv;obtain⟨i,hi,e⟩:=List.mem_iff_getElem.mp ht;refine⟨_,tup (G[i],es[i]'⋯) ?_ |> λz=>by rw[<- e];exact z⟩;refine List.mem_iff_getElem.mpr ⟨i,by rw[q0N];omega,by rw[List.getElem_zip]⟩
  refine⟨tuples' true,TS.rk TS.ordI (TS.keyI D.heap) (keys.zip vs.toArray).toList,λh2 Q hq=>?_,λ_=>TS.cmp_I (by have:=hr.un;show X.A.units+1+1<cLine;omega) λp hp=>all p.1 ?_,λps p1 p2=>?_⟩
  ·have:=TS.kind_I (prog:=X.prog) (w:=X.w) (A:=X.A.in1.in1) (E:=X.xe) (vs:=keys.toList) all (by rw[hk,KO];omega) hq
   simpa using this
  ·rw[ksk_zip]at hp
   exact(List.of_mem_zip hp).1
  ·rw[ksk_zip]at p2
   have p3:=TS.ranks_out p1 p2;obtain⟨S,pm,rfl⟩:=vk p1 _ ez;have mm:∀t,t∈S->t∈G.zip es:=λt ht=>pm.mem_iff.mp ht;rw[List.pairwise_map]at p3;have p4:gW g (S.map (·.2)):=by
    unfold gW;rw[List.pairwise_map];refine(List.Pairwise.and_mem.mp p3).imp ?_;rintro x y ⟨hx,hy,hb⟩;rw[TS.keyI_eq (p:=(Value.ref x.1,Value.ref x.2.2.1)) (tup x (mm x hx)),TS.keyI_eq (p:=(Value.ref y.1,Value.ref y.2.2.1)) (tup y (mm y hy))]at hb;exact hb
   have p5:(S.map (·.2)).Perm es:=(pm.map _).trans (by rw[List.map_snd_zip ⋯]);have qq:=q _ p5 p4;have a0:(((S.map (·.2))).map BE).length<=sizeLine:=by rw[KO,p5.length_eq];exact hz
   have vo:bh ((S.map (·.2)).map BE) (S.map λL=>Value.ref L.2.2.1):=by
    clear p3 p4 p5 qq a0 mm pm p1 p2
    induction S with
    |nil=>exact .nil
    |cons t m ih=>exact .cons rfl ih
   have eo:List.map (λx=>x.2) (List.map (λL:Addr×VE=>(Value.ref L.1,Value.ref L.2.2.1)) S)=S.map λL=>Value.ref L.2.2.1:=by rw[K4];rfl
   rw[eo];generalize(S.map λL=>Value.ref L.2.2.1)=out at vo ⊢;generalize(S.map (·.2)).map BE=zv at vo qq a0;clear p3 p4 p5 pm mm p2 p1 eo;have p0:=R.pin (s.heap.objs.size,seqObj "list" #[] e1) (by simp);have pk:=R.pin (O,seqObj "list" keys e) (by simp);have Ia:Inv X pins σ M D:=R.pins_of (Z R);have Ib:=Ia.turned (t':=D.toks) (h':=D.heap.update O (Obj.mapSeq λ_=>(#[]:Array Value))) (λb o hb e=>(Heap.get?_update_ne _ _ _ _ hb).trans e) pk.2.1 (nL _ ⋯) (.inr ⋯) (nC _ ⋯) (nP _ ⋯);have ga:(D.heap.update O (Obj.mapSeq λ_=>(#[]:Array Value))).get? s.heap.objs.size=some (seqObj "list" #[] e1):=(Heap.get?_update_ne _ _ _ _ (λz=>by have z2:(s.heap.objs.size:Nat)=s.heap.objs.size+1+1:=Eq.trans z a4;omega)).trans p0.1;have Ic:=Ib.adopt (t':=D.toks) (a:=s.heap.objs.size) (o:=.lst zv) (h':=TS.keyEnd D.heap s.heap.objs.size O out.toArray) (λb u hb e=>(Heap.get?_update_ne _ _ _ _ hb).trans e) p0.2.1 (nL _ (Lb _)) nS (nC _ (Lb _)) (nP _ (Lb _))
    (show cG X.prog X.w _ _ _ (.lst zv) from⟨a0,out,_,vo,get?_update_seq ga _⟩)
   exact⟨.ref s.heap.objs.size,_,Ic,rfl,qq _ _ (bE sm a1) a1 af⟩
end
def tI(K:LM)(P:List Str->Prop)(g:List Str->Int)(t:TA):TE:=λσ H Q=>t σ H λxs H1=>∃(p a:Addr) (es:List VE),xs=[.ref p]/\H1 p=some (vM p a)/\H1 a=some (.dK (es.map HH))/\(∀e,e∈es->aQ K H1 e.2.1 (e.2.2.map V.str)/\P e.2.2) /\
 ∀zs:List VE,zs.Perm es->gW g zs->∀(H':Hp) (l:Addr),az H1 H'->H1 l=none->H' l=some (.lst (zs.map BE))->Q (.ref l) H'
section
variable {X:Cx}{e:Expr}{t:TA}{p fp pos kpos:Pos}{k:Nat}{fx:Str}{ps:LW}{sp:Sp}{P:List Str->Prop}{g:List Str->Int}
theorem zj(hr:cQ (k+2) X.A)(hc:X.calm=true)(hg:Gl X "sorted")(hm:X.mg "sorted"=none)(C:dF X.prog X.w X.K X.mg X.base bu k fx ps sp)(hgf:Gl X fx)
  (hsp:∀l ss H Q E,aQ X.K H l (ss.map V.str)->P ss->(∀t,H t=none->Q (.ref t) (aD H t (.tup [.int (g ss),.ref l])))->sp [.ref l] H Q E) (ha:PA X [e] t) (hdb:autoParam ((fx==("__debug__":Str))=false) zz2._auto_1)
  (he:autoParam (backTo pos (starEach [e] X.env)=(false,eval e X.env)::backTo pos (starEach [] X.env)) zz0._auto_1) (hpl:autoParam ((backTo pos (starEach [e] X.env)).any (·.1)=false) zz0._auto_1)
  (hall:autoParam ((backToKw pos (keywordEach [⟨some "key",.Name fx fp,kpos⟩] X.env)).all (·.1.isSome)=true) zz0._auto_1) (hkw:autoParam ((backToKw pos (keywordEach [⟨some "key",.Name fx fp,kpos⟩] X.env)).any (·.1.isNone)=false) zz0._auto_1)
  (hks:autoParam ((backToKw pos (keywordEach [⟨some "key",.Name fx fp,kpos⟩] X.env)).filterMap (·.1)=[Str.ofString "key"]) zz0._auto_1) :
  PE X (.Call (.Name "sorted" p) [e] [⟨some "key",.Name fx fp,kpos⟩] pos) (tI X.K P g t):=by
 obtain⟨f,fd,F,G,hkf,L⟩:=C.ex;intro c s σ H Q I h;have hb:bootBuiltins "sorted"=some (.builtin "sorted"):=by decide +kernel
 refine wpAny_Call_Name_kw (fc I hg hm hb ?_);refine callWith_kw (ci (ha pos c s σ H _ I h) λus Y ⟨vs,H1,I1,r,q⟩=>?_) he hpl hall hkw;have hk:PK X [⟨some "key",.Name fx fp,kpos⟩] (ke (tC (.ref f)) oN):=DR (cW hgf G rfl hdb) EQ;refine ci (hk pos c Y σ H1 (λR H2=>R=[.ref f]/\H2=H1) I1 ⟨rfl,rfl⟩) λws s2 ⟨R,H2,B,Z,ez,eh⟩=>?_;subst ez eh;rw[hks];obtain⟨S,a,y,rfl,hp,O,J,q3⟩:=q;obtain⟨u,rfl,ru⟩:=r.one;cases ru;obtain⟨u2,rfl,D⟩:=Z.one;cases D;show wpAny _ _ (call (.builtin "sorted") [.ref S] [(Str.ofString "key",.ref f)]) _ _ _;refine TS.sorted_key ?_;obtain⟨z,hd,vs,m,dd⟩:=rU B.hok O;obtain⟨ep,da⟩:=dd.dictAt;obtain⟨hv,_⟩:=B.hok _ _ hp;have n:vs.length=y.length:=by rw[<- m.length,KO]
 have hz:y.length<=sizeLine:=by rw[KO]at z;exact z
 refine TS.collect_src (PySem.W.kdl_values (knd:=cj X.prog X.w) (r:=S) (d:=a) (kvs:=vs) (ep:=ep)) (B.ok.hd hc) ⟨hv,da⟩ ⋯ λh' U acc' kp j=>?_;have I3:=B.kept (t':=U) kp;refine Dr F L hr hsp I3 (by rw[Array.length_toList,j.1,n]) hz (λi x hx=>?_) J q3;obtain⟨kk,o⟩:=j.2 i x (by simpa using hx);have T:i<y.length:=by have:=(KM.mp o).1;omega
 refine⟨y[i],KL T,?_⟩;have:=pX m (i:=i) (a:=HH y[i]) (by rw[KQ,KL T];rfl);obtain⟨b,v,_,M⟩:=this;rw[o]at v;cases v;exact M
end
section
variable {P:LV}{w:LY}{K:LM}{mg:LS}{base:Heap}
theorem zF.ok{qual:Str}{st:Stmt}{f dT:Addr}{ps:LW}{sp:Sp}(F:zF K x qual st f fd dT)(S:aG N ps (aq st))(len:∀vs H Q E,sp vs H Q E->vs.length=ps.length)
  (hbody:∀(cdv:Value) (A:LX) (outer:List Env) (s:LP) (H:Hp) (vs:List V) (Q:VK) (E:XK),cQ k (A.deeper (envOfC qual (aq st) s.heap.objs.size f cdv))->sp vs H Q E ->
   ∃t,wg (tS bu P w K mg base N qual (aq st) f cdv A outer s H E).nox (cI st) t/\t {nx:=λ_ H'=>Q .non H',rt:=Q} (start N vs) H):↑bj (k+1) f fd ps sp:=by
 obtain⟨oc,od,kV,doc,pm,an,cdv,ct,osl,rfl,c,b⟩:=F.ex;refine En c b S len λA outer s H vs Q E hr a=>?_;obtain⟨t,h,q⟩:=hbody cdv A outer s H vs Q E hr a;exact⟨t,h.nox,q⟩
end
section
variable {X:Cx}
def Gh(K:LM):R2:=λx y H Q=>(x=.non/\y=.non/\Q (.bl false) H)\/∃ds,Dt.deps ds<=200/\iP K H (.tup ds) x/\iP K H (.tup ds) y/\Q (.bl false) H
theorem Fc(hu:X.A.units+210<cLine):bC X (compareOp .NotEq) (Gh X.K):=by
 intro r s σ H x y v u Q I rx ry h;rcases h with⟨rfl,rfl,q⟩ | ⟨T,hd,h1,h2,q⟩
 ·exact yj _ _ _ _ _ _ _ _ _ I rx ry ⟨rfl,by simpa using q⟩
 have fin:EP X r σ Q (.bool false) s:=⟨.bl false,H,I,rfl,q⟩;have w:∀{n m:List V} {g c:LQ},dB X.K H T n->dB X.K H T m->bh n g->bh m c->∀j (h1:j<g.toArray.size) (h2:j<c.toArray.size),SeqAt.EqAt X.A.in1 s g.toArray[j] c.toArray[j] true:=fun{n m g c} l k p o j g1 g2=>by
  have l1:=p.length;have l2:=o.length;have l3:=l.length;have Z:=k.length
  have J:j<g.length:=by simpa using g1
  have G:j<c.length:=by simpa using g2
  have M:n[j]?=some n[j]:=KL ⋯;have L:m[j]?=some m[j]:=KL ⋯;obtain⟨d,S,D⟩:=l.get M;obtain⟨d',R,C⟩:=k.get L;rw[S]at R;cases R
  obtain⟨w1,O,B⟩:=p.get M;obtain⟨w2,f2,z⟩:=o.get L;rw[KL J]at O;rw[KL G]at f2;cases O;cases f2
  have hdep:=gR S;simp only[LB];exact xj I 200 d X.A.in1 ⋯ (by show X.A.units+1+200<cLine;omega) D C B z
 unfold iP at h1 h2;obtain⟨a,n,rfl,ha,l⟩:=h1;obtain⟨b,m,rfl,hb,k⟩:=h2;cases rx;cases ry
 obtain⟨g,p,Y,_⟩:=I.tuple ha;obtain⟨c,o,U,_⟩:=I.tuple hb;have l1:=p.length;have l2:=o.length;have l3:=l.length;have Z:=k.length
 have q:=SeqAt.RcNeAt.tuples (A:=X.A) (s:=s) (e:=λ_=>true) (show s.heap.IsTuple a g.toArray from Y) (show s.heap.IsTuple b c.toArray from U) ⋯ (w l k p o);have e0:((List.range (min g.toArray.size c.toArray.size)).all (λ_=>true)&&g.toArray.size==c.toArray.size)=true:=by
  rw[fJ,Bool.true_and];simp;omega
 rw[e0]at q;exact q _ _ _ _ fin
end
end L2
namespace aL
def kK(sb:Bool)(p q:aL):aL:=if sb=true then(p.zip q).map λx=>x.1++x.2 else p++q
theorem ng(hp:rect p r c)(hq:rect q r c'):rect (kK true p q) r (c+c'):=by
 unfold kK;rw[q07 rfl];refine⟨by rw[KO,q0N,hp.1,hq.1,Nat.min_self],λx b=>?_⟩;obtain⟨⟨u,v⟩,a,rfl⟩:=Lx.mp b;have:=List.of_mem_zip a;rw[La,hp.2 u this.1,hq.2 v this.2]
theorem pP(hp:rect p r c)(hq:rect q r' c):rect (kK false p q) (r+r') c:=by
 unfold kK;rw[q06 b⁻¹];refine⟨by rw[La,hp.1,hq.1],λx a=>?_⟩;rcases K3.mp a with h | h
 ·exact hp.2 x h
 ·exact hq.2 x h
end aL
namespace Win
abbrev Wn:=List Int
def wn(t l b r:Nat):Wn:=[(t:Int),(l:Int),(b:Int),(r:Int)]
def W4(t l b n:Nat):List Wn:=(List.range n).map λk=>wn t l b (l+1+k)
def W3(c t l n:Nat):List Wn:=(List.range n).flatMap λk=>W4 t l (t+1+k) (c-l)
def W2(r c t n:Nat):List Wn:=(List.range n).flatMap λl=>W3 c t l (r-t)
def W1(r c n:Nat):List Wn:=(List.range n).flatMap λt=>W2 r c t c
def kG(r c:Nat):List Wn:=W1 r c r
theorem D4(t l b n:Nat):W4 t l b (n+1)=W4 t l b n++[wn t l b (l+1+n)]:=by unfold W4;rw[q0M,K2];rfl
theorem Dh(c t l n:Nat):W3 c t l (n+1)=W3 c t l n++W4 t l (t+1+n) (c-l):=by unfold W3;rw[q0M,List.flatMap_append];simp
theorem DL(r c t n:Nat):W2 r c t (n+1)=W2 r c t n++W3 c t n (r-t):=by unfold W2;rw[q0M,List.flatMap_append];simp
theorem DM(r c n:Nat):W1 r c (n+1)=W1 r c n++W2 r c n c:=by unfold W1;rw[q0M,List.flatMap_append];simp
def lt:Wn->Wn->Bool
 | [],[]=>false
 | [],_::_=>true
 |_::_,[]=>false
 |x::xs,y::ys=>if x=y then lt xs ys else decide (x<y)
def good(r c:Nat):Wn->Bool
 | [t,l,b,x]=>decide (0<=t)&&decide (t<b)&&decide (b<=(r:Int))&&decide (0<=l)&&decide (l<x)&&decide (x<=(c:Int))
 |_=>false
def AM:Wn->List Wn->Bool
 |_,[]=>true
 |a,w::ws=>lt a w&&AM w ws
def check(r c:Nat):Bool:=(kG r c).all (good r c)&&AM [-1,0,0,0] (kG r c)&&((kG r c).length==r*(r+1)/2*(c*(c+1)/2))&&decide ((kG r c).length<=1000)
theorem zy:((List.range 6).all λr=>(List.range 6).all λc=>check (r+1) (c+1))=true:=by decide +kernel
theorem CS{r c:Nat}(hr0:0<r)(hr:r<=6)(hc0:0<c)(hc:c<=6):check r c=true:=by
 have h:=Lz.mp zy (r-1) (List.mem_range.mpr ⋯);have h2:=Lz.mp h (c-1) (List.mem_range.mpr ⋯);have b:r-1+1=r:=by omega
 have a:c-1+1=c:=by omega
 rw[b,a]at h2;exact h2
def cut(p:List (List Nat))(t l b x:Nat):List (List Nat):=((p.drop t).take (b-t)).map λrow=>(row.drop l).take (x-l)
end Win
namespace SnM
open PySem L2 aL QL Win
def bV(p:aL):Prop:=∀row∈p,47∉row
theorem yZ(h:bV p):bV (mirror p):=by
 intro row hr;obtain⟨x,a,rfl⟩:=Lx.mp hr;rw[List.mem_reverse];exact h x a
theorem xE(hp:rect p r c)(hr:0<r)(h:bV p):bV (bd p):=by
 intro row a;unfold bd at a;rw[aO hp hr]at a;obtain⟨i,j,rfl⟩:=Lx.mp a;have j:=List.mem_range.mp j;intro g;obtain⟨x,k,e⟩:=Lx.mp g;have b:=List.mem_reverse.mp k;have hl:=hp.2 x b;rw[q0A,KL ⋯,q0L]at e;exact h x b (e▸KY _)
theorem jl:∀(n:Nat) {p:aL} {r c:Nat},rect p r c->0<r->0<c->bV p->bV (aS n p)
 |0,_,_,_,_,_,_,h=>h
 |n+1,p,r,c,hp,hr,hc,h=>by
  have e:aS (n+1) p=bd (aS n p):=(cv 1 n p).symm;rw[e];have hq:=cK n hp hr hc;refine xE hq ?_ (jl n hp hr hc h)
  split<;>assumption
theorem qS(hp:rect p r c)(hr:0<r)(hc:0<c)(h:bV p)(t:Nat):bV (turned p t):=by
 unfold turned
 split
 ·exact jl _ (bZ hp) hr hc (yZ h)
 ·exact jl _ hp hr hc h
theorem FV{t:Nat}(h:bV p):bV (cut p t l b x):=by
 intro row hr;obtain⟨y,c,rfl⟩:=Lx.mp hr;exact λa=>h y (q0I (q0H c)) (q0I (q0H a))
theorem cn{t l b x:Nat}(hp:rect p r c)(h1:t<b)(h2:b<=r)(h3:l<x)(h4:x<=c):rect (cut p t l b x) (b-t) (x-l):=by
 refine⟨?_,λrow hr=>?_⟩
 ·unfold cut;rw[KO,Lq,Lr,hp.1];omega
 ·obtain⟨y,a,rfl⟩:=Lx.mp hr
  have:=hp.2 y (q0I (q0H a));rw[Lq,Lr];omega
theorem pd{w:Wn}:w∈kG r c↔∃t l b x:Nat,w=wn t l b x/\t<b/\b<=r/\l<x/\x<=c:=by
 unfold kG W1 W2 W3 W4;simp only[List.mem_flatMap,Lx,List.mem_range]
 constructor
 ·rintro⟨t,ht,l,hl,k,hk,m,hm,rfl⟩
  exact⟨t,l,t+1+k,l+1+m,rfl,⋯,⋯,⋯,⋯⟩
 ·rintro⟨t,l,b,x,rfl,h1,h2,h3,h4⟩
  exact⟨t,⋯,l,⋯,b-t-1,⋯,x-l-1,⋯,by rw[show t+1+(b-t-1)=b by omega,show l+1+(x-l-1)=x by omega]⟩
def DU(p:aL)(w:Wn):aL:=cut p (w.getD 0 0).toNat (w.getD 1 0).toNat (w.getD 2 0).toNat (w.getD 3 0).toNat
theorem nX(p:aL)(t l b x:Nat):DU p (wn t l b x)=cut p t l b x:=rfl
def a_(p:aL)(r c:Nat)(q:aL):Prop:=∃t l b x u:Nat,t<b/\b<=r/\l<x/\x<=c/\u<8/\q=turned (cut p t l b x) u
theorem Ah:a_ p r c q↔∃i,i<(kG r c).length/\∃u,u<8/\q=turned (DU p ((kG r c).getD i [])) u:=by
 constructor
 ·rintro⟨t,l,b,x,u,h1,h2,j,g,m,rfl⟩
  obtain⟨i,a,e⟩:=List.mem_iff_getElem.mp (pd.mpr ⟨t,l,b,x,rfl,h1,h2,j,g⟩);refine⟨i,a,u,m,?_⟩;rw[q0A,KL a,q0L,e,nX]
 ·rintro⟨i,a,u,k,rfl⟩
  obtain⟨t,l,b,x,e,h1,h2,j,g⟩:=pd.mp (KY a);refine⟨t,l,b,x,u,h1,h2,j,g,k,?_⟩;rw[q0A,KL a,q0L,e,nX]
theorem yK(hp:rect p r c)(hn:bV p){t l b x u:Nat}(h1:t<b)(h2:b<=r)(h3:l<x)(h4:x<=c) :
  turned (cut p t l b x) u≠[]/\bV (turned (cut p t l b x) u)/\∃r' c',rect (turned (cut p t l b x) u) r' c'/\0<r'/\0<c'/\r'<=max r c/\c'<=max r c:=by
 have g:=cn hp h1 h2 h3 h4;have a:=cC g ⋯ ⋯ u;refine⟨λe=>?_,qS g ⋯ ⋯ (FV hn) u,_,_,a,by split<;>omega,by split<;>omega,by split<;>omega,by split<;>omega⟩;have:=a.1;rw[e]at this;simp at this
 split at this<;>omega
abbrev AP:=Addr×aL
def Fi(z:AP):VE:=(.inr (tx (SpM.glue 47 z.2)),z.1,z.2.map tx)
abbrev jV(z:AP):c_×V:=HH (Fi z)
def mh(zs:List AP)(z:AP):List AP:=if(zs.any λz0=>decide (z0.2=z.2))=true then zs.map (λz0=>if z0.2=z.2 then z else z0) else zs++[z]
theorem eD(h:tx a=tx b):a=b:=by rw[<- dh a,<- dh b,h]
theorem B9{zs:List AP}{z:AP}(inj:∀z0∈zs,SpM.glue 47 z0.2=SpM.glue 47 z.2->z0.2=z.2):dL (zs.map jV) (.inr (tx (SpM.glue 47 z.2))) (.ref z.1)=(mh zs z).map jV:=by
 have b:∀z0∈zs,((jV z0).1=Sum.inr (tx (SpM.glue 47 z.2))↔z0.2=z.2):=λz0 c=>⟨λe=>inj z0 c (eD (Sum.inr.inj e)),λe=>by show Sum.inr (tx (SpM.glue 47 z0.2))=_;rw[e]⟩;unfold dL mh;have k:((zs.map jV).any λj=>decide (j.1=Sum.inr (tx (SpM.glue 47 z.2))))=zs.any λz0=>decide (z0.2=z.2):=by
  rw[List.any_map];clear inj
  induction zs with
  |nil=>rfl
  |cons a l ih=>
   rw[List.any_cons,List.any_cons,ih λz0 c=>b z0 (K6 _ c)]
   congr 1
   exact decide_eq_decide.mpr (b a (q0B ..))
 rw[k]
 split
 ·rw[K4,K4]
  refine q0K λz0 c=>?_;show(if(jV z0).1=Sum.inr (tx (SpM.glue 47 z.2)) then((jV z0).1,V.ref z.1) else jV z0)=jV (if z0.2=z.2 then z else z0)
  by_cases h:z0.2=z.2
  ·have g:=(b z0 c).mpr h
   rw[q07 g,q07 h,g]
   rfl
  ·rw[q06 λq=>h ((b z0 c).mp q),q06 h]
 ·rw[K2];rfl
structure fL(H H':Hp)(d:Addr)(dn:aL->Prop)(zs:List AP)(n:Nat):Prop where
 tbl:H' d=some (.dK (zs.map jV))
 sm:az H H'
 hd:H d=none
 each:∀z∈zs,H z.1=none/\H' z.1=some (.lst (ao z.2))/\z.2≠[]/\bV z.2/\(z.2.headD []).length<=64
 nda:(zs.map (·.1)).Nodup
 ndp:(zs.map (·.2)).Nodup
 mem:∀q,q∈zs.map (·.2)↔dn q
 len:zs.length<=n
theorem fL.step{H1 H2:Hp}{d:Addr}{dn:aL->Prop}(S:fL H H1 d dn zs n)(sm:az H1 H2)(hb:H1 b=none)(hb2:H2 b=some (.lst (ao q)))(hq:q≠[])(ns:bV q)(hl:(q.headD []).length<=64) :
  dL (zs.map jV) (.inr (tx (SpM.glue 47 q))) (.ref b)=(mh zs (b,q)).map jV/\fL H (aD H2 d (.dK ((mh zs (b,q)).map jV))) d (λx=>dn x\/x=q) (mh zs (b,q)) (n+1):=by
 refine⟨B9 (z:=(b,q)) λz0 h0 e=>SpM.glue_inj 47 (S.each z0 h0).2.2.1 hq (S.each z0 h0).2.2.2.1 ns e,?_⟩;have nbd:b≠d:=λe=>by rw[e,S.tbl]at hb;cases hb
 have nzd:∀z∈zs,z.1≠d:=λz hz=>qY (S.each z hz).2.1 S.tbl (by intro e;cases e);have nzb:∀z∈zs,z.1≠b:=λz hz=>aI (S.each z hz).2.1 hb;have old:∀z∈zs,H z.1=none/\aD H2 d (.dK ((mh zs (b,q)).map jV)) z.1=some (.lst (ao z.2))/\z.2≠[]/\bV z.2/\(z.2.headD []).length<=64:=λz hz=>by
  obtain⟨h1,h2,h3⟩:=S.each z hz;exact⟨h1,by rw[ar (nzd z hz)];exact sm _ _ h2,h3⟩
 have new:H b=none/\aD H2 d (.dK ((mh zs (b,q)).map jV)) b=some (.lst (ao q))/\q≠[]/\bV q/\(q.headD []).length<=64:=⟨S.sm.free hb,by rw[ar nbd];exact hb2,hq,ns,hl⟩
 by_cases h:(zs.any λz0=>decide (z0.2=q))=true
 ·have e:mh zs (b,q)=zs.map λz0=>if z0.2=q then(b,q) else z0:=by unfold mh;rw[q07 h]
  have e2:((mh zs (b,q)).map (·.2))=zs.map (·.2):=by
   rw[e,K4];refine q0K λz0 _=>?_;show(if z0.2=q then(b,q) else z0).2=z0.2
   split
   ·rename_i hz;exact hz.symm
   ·rfl
  obtain⟨z1,hz1,hz2⟩:=List.any_eq_true.mp h;have hz2:=of_decide_eq_true hz2;refine⟨af,bE (S.sm.trans sm) S.hd,S.hd,?_,?_,by rw[e2];exact S.ndp,λx=>?_,by rw[e,KO];exact Nat.le_succ_of_le S.len⟩
  ·intro z hz
   have hz':=hz;rw[e]at hz';obtain⟨z0,h0,ez⟩:=Lx.mp hz'
   split at ez
   ·rw[<- ez];exact new
   ·rw[<- ez];exact old z0 h0
  ·rw[e,K4,List.Nodup,List.pairwise_map]
   have h1:=S.nda;have h2:=S.ndp;rw[List.Nodup,List.pairwise_map]at h1 h2;refine(List.Pairwise.and_mem.mp (h1.and h2)).imp ?_;rintro x y ⟨hx,hy,n1,n2⟩;show(if x.2=q then(b,q) else x).1≠(if y.2=q then(b,q) else y).1
   by_cases c1:x.2=q
   ·rw[q07 c1,q06 λc2=>n2 (c1.trans c2.symm)]
    exact(nzb y hy).symm
   ·rw[q06 c1]
    by_cases c2:y.2=q
    ·rw[q07 c2];exact nzb x hx
    ·rw[q06 c2];exact n1
  ·rw[e2,S.mem]
   refine⟨.inl,λz=>z.elim id λz=>?_⟩;rw[<- S.mem,z];exact Lx.mpr ⟨z1,hz1,hz2⟩
 ·have e:mh zs (b,q)=zs++[(b,q)]:=by unfold mh;rw[q06 h]
  refine⟨af,bE (S.sm.trans sm) S.hd,S.hd,?_,?_,?_,λx=>?_,by rw[e,La];exact Nat.succ_le_succ S.len⟩
  ·intro z hz
   have hz':=hz;rw[e]at hz';rcases K3.mp hz' with hz' | hz'
   ·exact old z hz'
   ·rw[KP.mp hz'];exact new
  ·rw[e,K2,List.nodup_append]
   refine⟨S.nda,by simp,λa ha c hc=>?_⟩;obtain⟨z,hz,rfl⟩:=Lx.mp ha;have:c=b:=by simpa using hc
   rw[this];exact nzb z hz
  ·rw[e,K2,List.nodup_append]
   refine⟨S.ndp,by simp,λa ha c hc=>?_⟩;obtain⟨z,hz,rfl⟩:=Lx.mp ha;have:c=q:=by simpa using hc
   rw[this];exact λhz2=>h (List.any_eq_true.mpr ⟨z,hz,q09 hz2⟩)
  ·rw[e,K2,K3,S.mem]
   simp
theorem fL.congr{d:Addr}{dn dn':aL->Prop}(S:fL H H' d dn zs n)(h:∀q,dn q↔dn' q):fL H H' d dn' zs n:=⟨S.tbl,S.sm,S.hd,S.each,S.nda,S.ndp,λq=>(S.mem q).trans (h q),S.len⟩
theorem fL.same{H2:Hp}{d:Addr}{dn:aL->Prop}(S:fL H H' d dn zs n)(sm:az H' H2):fL H H2 d dn zs n:=⟨sm _ _ S.tbl,S.sm.trans sm,S.hd,λz hz=>let ⟨h1,h2,h3⟩:=S.each z hz;⟨h1,sm _ _ h2,h3⟩,S.nda,S.ndp,S.mem,S.len⟩
def gH(ss:LW):Int:=(ss.length:Int)*((ss.headD ⟨#[]⟩).length:Int)
def aH(p:aL):Nat:=p.length*(p.headD []).length
def Ig(a b:aL):Prop:=aH a<aH b\/aH a=aH b/\a<b
def Gc(p:aL)(r c:Nat)(qs:List aL):Prop:=(∀q,q∈qs↔a_ p r c q)/\qs.Pairwise Ig
theorem yx(p:aL):((p.map tx).headD ⟨#[]⟩).length=(p.headD []).length:=by
 cases p with
 |nil=>rfl
 |cons r p=>exact ax r
theorem Ao(p:aL):gH (p.map tx)=(aH p:Int):=by
 unfold gH aH;rw[KO,yx];simp
theorem GW(p:aL):TS.ks (p.map tx)=p:=by
 unfold TS.ks;rw[K4];exact(q0K λr _=>dh r).trans (List.map_id _)
theorem Ej(p:aL):kI (gH (p.map tx),p.map tx)=((aH p:Int),p):=by
 show(gH (p.map tx),TS.ks (p.map tx))=_;rw[Ao,GW]
theorem yV{ws:List AP}(h:gW gH (ws.map Fi))(nd:(ws.map (·.2)).Nodup):(ws.map (·.2)).Pairwise Ig:=by
 unfold gW at h;rw[List.pairwise_map]at h ⊢;rw[List.Nodup,List.pairwise_map]at nd;refine(h.and nd).imp ?_;rintro a b ⟨c,g⟩;have c:TS.ordI.blt (kI (gH (b.2.map tx),b.2.map tx)) (kI (gH (a.2.map tx),a.2.map tx))=false:=c;rw[Ej,Ej]at c;cases e:TS.ordI.blt ((aH a.2:Int),a.2) ((aH b.2:Int),b.2) with
 |true=>
  have:=of_decide_eq_true e;rcases this with h1 | ⟨h1,h2⟩
  ·exact .inl (Int.ofNat_lt.mp h1)
  ·exact .inr ⟨Int.ofNat.inj h1,h2⟩
 |false=>
  have:=TS.ordI.total _ _ e c;exact q0Q (q0R Prod.snd this) g
theorem ku{t l b x i j:Nat}(hp:rect p r c)(h2:b<=r)(h4:x<=c)(hi:i<b-t)(hj:j<x-l):Af (cut p t l b x) i j=Af p (t+i) (l+j):=by
 have h1:t+i<p.length:=by rw[hp.1];omega
 have h3:(p[t+i]).length=c:=hp.2 _ (KY _);have a:(cut p t l b x).getD i []=((p.getD (t+i) []).drop l).take (x-l):=by
  unfold cut;simp only[q0A];rw[KQ,List.getElem?_take_of_lt hi,List.getElem?_drop,KL h1]
  rfl
 unfold Af;rw[a];simp only[q0A];rw[List.getElem?_take_of_lt hj,List.getElem?_drop]
theorem wt{t l b x:Nat}(hp:rect p r c)(h1:t<b)(h2:b<=r)(h3:l<x)(h4:x<=c):cut (mirror p) t l b x=mirror (cut p t (c-x) b (c-l)):=by
 have e:=cn hp h1 h2 (show c-x<c-l by omega) (show c-l<=c by omega);refine gv (cn (bZ hp) h1 h2 h3 h4) (r:=b-t) (c:=x-l) ?_ λi j a g=>?_
 ·have:=bZ e
  rwa [show c-l-(c-x)=x-l by omega]at this
 ·rw[ku (bZ hp) h2 h4 a g,fF hp ⋯ ⋯,fF e a ⋯,ku hp h2 ⋯ a ⋯]
  congr 1
  omega
theorem vZ{t l b x:Nat}(hp:rect p r c)(h1:t<b)(h2:b<=c)(h3:l<x)(h4:x<=r):cut (bd p) t l b x=bd (cut p (r-x) t (r-l) b):=by
 have g:=cn hp (show r-x<r-l by omega) (show r-l<=r by omega) h1 h2;have a:=bH hp ⋯;refine gv (cn a h1 h2 h3 h4) (r:=b-t) (c:=x-l) ?_ λi j e k=>?_
 ·have:=bH g ⋯
  rwa [show r-l-(r-x)=x-l by omega]at this
 ·rw[ku a h2 h4 e k,ce hp ⋯ ⋯ ⋯,ce g ⋯ e ⋯,ku hp ⋯ h2 ⋯ ⋯]
  congr 1
  omega
theorem iI:∀(n:Nat) {p:aL} {r c t l b x:Nat},rect p r c->t<b->b<=(if n%2=0 then r else c)->l<x->x<=(if n%2=0 then c else r)->∃t' l' b' x',t'<b'/\b'<=r/\l'<x'/\x'<=c/\cut (aS n p) t l b x=aS n (cut p t' l' b' x')
 |0,p,r,c,t,l,b,x,hp,h1,h2,h3,h4=>⟨t,l,b,x,h1,by simpa using h2,h3,by simpa using h4,rfl⟩
 |n+1,p,r,c,t,l,b,x,hp,h1,h2,h3,h4=>by
  have hr:0<r/\0<c:=by
   split at h2<;>split at h4<;>omega
  have e:∀q:aL,aS (n+1) q=aS n (bd q):=λq=>rfl;rw[e];obtain⟨t',l',b',x',j,g,o,m,k⟩:=iI n (bH hp hr.1) (t:=t) (l:=l) (b:=b) (x:=x) h1 (by
   by_cases a:n%2=0
   ·rw[q06 ⋯]at h2;rw[q07 a];exact h2
   ·rw[q07 ⋯]at h2;rw[q06 a];exact h2) h3 (by
   by_cases a:n%2=0
   ·rw[q06 ⋯]at h4;rw[q07 a];exact h4
   ·rw[q07 ⋯]at h4;rw[q06 a];exact h4)
  refine⟨r-x',t',r-l',b',⋯,⋯,j,g,?_⟩;rw[k,vZ hp j g o m,e]
theorem wD{t l b x u:Nat}(hp:rect p r c)(h1:t<b)(h2:b<=(if u%2=0 then r else c))(h3:l<x)(h4:x<=(if u%2=0 then c else r)):∃t' l' b' x',t'<b'/\b'<=r/\l'<x'/\x'<=c/\cut (turned p u) t l b x=turned (cut p t' l' b' x') u:=by
 have g:u%4%2=u%2:=by omega
 unfold turned
 by_cases h:4<=u
 ·rw[q07 h]
  obtain⟨t',l',b',x',e,a,m,k,j⟩:=iI (u%4) (bZ hp) h1 (by rw[g];exact h2) h3 (by rw[g];exact h4);refine⟨t',c-x',b',c-l',e,a,⋯,⋯,?_⟩;rw[j,wt hp e a m k,q07 h]
 ·rw[q06 h]
  obtain⟨t',l',b',x',e,a,m,k,j⟩:=iI (u%4) hp h1 (by rw[g];exact h2) h3 (by rw[g];exact h4);refine⟨t',l',b',x',e,a,m,k,?_⟩;rw[j,q06 h]
theorem DX{t l b x t' l' b' x':Nat}(hp:rect p r c)(h1:t<b)(h2:b<=r)(h3:l<x)(h4:x<=c)(k1:t'<b')(k2:b'<=b-t)(k3:l'<x')(k4:x'<=x-l):cut (cut p t l b x) t' l' b' x'=cut p (t+t') (l+l') (t+b') (l+x'):=by
 have a:=cn hp h1 h2 h3 h4;have k:=cn hp (show t+t'<t+b' by omega) ⋯ (show l+l'<l+x' by omega) ⋯;refine gv (cn a k1 k2 k3 k4) (r:=b'-t') (c:=x'-l') ?_ λi j g e=>?_
 ·rwa [show t+b'-(t+t')=b'-t' by omega,show l+x'-(l+l')=x'-l' by omega]at k
 ·rw[ku a k2 k4 g e,ku hp h2 h4 ⋯ ⋯,ku hp ⋯ ⋯ ⋯ ⋯]
  congr 1<;>omega
theorem Ee(hp:rect p r c):cut p 0 0 r c=p:=by
 unfold cut;rw[LK,Nat.sub_zero,Nat.sub_zero,q0F (by rw[hp.1];exact Lb _)]
 conv=>rhs;rw[<- List.map_id p]
 refine q0K λy a=>?_;rw[LK,q0F (by rw[hp.2 y a];exact Lb _)];rfl
theorem jD(hp:rect p r c):p.take n=cut p 0 0 n c:=by
 unfold cut;rw[LK,Nat.sub_zero,Nat.sub_zero]
 conv=>lhs;rw[<- List.map_id (p.take n)]
 refine q0K λy a=>?_;rw[LK,q0F (by rw[hp.2 y (q0H a)];exact Lb _)];rfl
theorem jM(hp:rect p r c):p.drop n=cut p n 0 r c:=by
 unfold cut;rw[Nat.sub_zero,q0F (by rw[Lr,hp.1];exact Lb _)]
 conv=>lhs;rw[<- List.map_id (p.drop n)]
 refine q0K λy a=>?_;rw[LK,q0F (by rw[hp.2 y (q0I a)];exact Lb _)];rfl
theorem jN(hp:rect p r c):(p.map λy=>y.take n)=cut p 0 0 r n:=by
 unfold cut;rw[LK,Nat.sub_zero,Nat.sub_zero,q0F (by rw[hp.1];exact Lb _)]
 rfl
theorem jR(hp:rect p r c):(p.map λy=>y.drop n)=cut p 0 n r c:=by
 unfold cut;rw[LK,Nat.sub_zero,q0F (by rw[hp.1];exact Lb _)];refine q0K λy a=>?_;rw[q0F (by rw[Lr,hp.2 y a];exact Lb _)]
theorem a_.rect(hp:rect p r c)(h:a_ p r c q):∃r' c',rect q r' c'/\0<r'/\0<c'/\r'<=max r c/\c'<=max r c:=by
 obtain⟨t,l,b,x,u,h1,h2,g,e,h5,rfl⟩:=h;have a:=cn hp h1 h2 g e;exact⟨_,_,cC a ⋯ ⋯ u,by split<;>omega,by split<;>omega,by split<;>omega,by split<;>omega⟩
theorem a_.ns(hp:aL.rect p r c)(hn:bV p)(h:a_ p r c q):bV q:=by
 obtain⟨t,l,b,x,u,h1,h2,e,a,h5,rfl⟩:=h;exact(yK hp hn h1 h2 e a).2.1
theorem a_.self(hp:aL.rect p r c)(r0:0<r)(c0:0<c):a_ p r c p:=⟨0,0,r,c,0,r0,Lb _,c0,Lb _,⋯,by rw[eX,Ee hp]⟩
theorem a_.turned{u:Nat}(hp:aL.rect p r c)(h:a_ p r c q)(hu:u<8):a_ p r c (aL.turned q u):=by
 obtain⟨t,l,b,x,v,h1,h2,g,e,a,rfl⟩:=h;have j:=cn hp h1 h2 g e;exact⟨t,l,b,x,after v u,h1,h2,g,e,gZ a hu,bK j ⋯ ⋯ a hu⟩
theorem a_.cut{t l b x:Nat}(hp:aL.rect p r c)(h:a_ p r c q)(hq:aL.rect q r' c')(h1:t<b)(h2:b<=r')(h3:l<x)(h4:x<=c'):a_ p r c (Win.cut q t l b x):=by
 obtain⟨a,e,y,g,v,n,m,k,j,L,rfl⟩:=h;have w:=cn hp n m k j;have o:=cC w ⋯ ⋯ v;have M:r'=if v%2=0 then y-a else g-e:=by rw[<- hq.1,o.1]
 have O:c'=if v%2=0 then g-e else y-a:=by
  rw[<- aO hq ⋯,aO o (by split<;>omega)]
 obtain⟨B,J,R,z,m1,I,G,D,C⟩:=wD (u:=v) w h1 (by rw[<- M];exact h2) h3 (by rw[<- O];exact h4);rw[C,DX hp n m k j m1 I G D];exact⟨a+B,e+J,a+R,e+z,v,⋯,⋯,⋯,⋯,L,rfl⟩
end SnM
set_option maxHeartbeats 4000000
namespace Q25
open PySem L2 aL QL Win SnM
local macro_rules|`(tactic|ext)=>do
 let f(s:String):Lean.MacroM _:=(s.splitOn ",").toArray.mapM λx=>let i:=Lean.mkIdent (x.splitOn "."|>.foldl .mkStr .anonymous);`(Lean.Parser.Tactic.simpLemma|$i:term)
 let g(s:String):Lean.MacroM _:=(s.splitOn ",").toArray.mapM λx=>let i:=Lean.mkIdent (x.splitOn "."|>.foldl .mkStr .anonymous);`(Lean.Parser.Tactic.simpLemma|↓$i:term)
 let c:="Ap,tB,CO,ye,EW,vT,za,EI,AO,yv,C6,tC,ET,vK,FS,Fp,Hf,AI,AU,tL,FO,sT,tI,wO,Cr,uA,E3,CI,ww,wY,xP,Fv,D0,yu,rV,tz,Ca,FR,wk,xk,sM,A5,oS,AY,EK,tH,E9,FA,G7,ke,oN,kZ,HD,D7,Fm,Hn,HN,Fy,Hq,tf,Bj,Fb,Fj,Ga,HV,vp,ud,CT,Cj,BY,AG,Ba,C8,FC,yq,Ce,qW,yJ,L2.start,Lh,List.map_nil,K1,List.length_nil,List.replicate,List.cons_append,LC,Nat.reduceAdd,Nat.reduceSub,List.getElem?_cons_zero,Lg,List.set_cons_zero,List.set_cons_succ,tS,Cx.blk,uB,C4,B8,BM,Cx.wish,Cx.nox,F5,j_";let d<-f (c++",Kk,IE,Ko,J5,IQ,IR,J4,Je,Dc,Fw,BC,BZ");let e<-f (c++",Lm,Option.some.injEq,V.int.injEq,V.str.injEq,V.ref.injEq,V.bl.injEq,List.cons.injEq,and_true,true_and,exists_and_left,exists_eq_left',exists_eq_left,decide_eq_true_eq,Bool.not_eq_true',decide_eq_false_iff_not,DN,C9,Option.join_some,Nat.succ_eq_add_one,Nat.zero_add,exists_const,and_assoc,exists_eq,exists_eq',Int.reducePow,Int.reduceNeg,Int.reduceLT,or_true,true_or,reduceCtorEq,Int.zero_add,Bool.false_eq_true,Bool.not_true,Bool.not_false,CL,EB,yy,yL,CF,AN,Bc,zd,rI");let h<-g "reduceIte,Ht,HA,HP,Hr,Hz,Hl,HL,HE";let e:=e++h
 `(tactic|((try dsimp only[$d,*]);(try simp only[$e,*])))
set_option hygiene false in
local macro_rules|`(tactic|grind)=>`(tactic|(clear h1;refine am λN1 h1=>?_;ext))
set_option hygiene false in
local macro_rules|`(tactic|symm)=>`(tactic|(refine am λN1 h1=>?_;ext))
set_option hygiene false in
local macro_rules|`(tactic|walk_at "oc")=>`(tactic|(clear h2;refine am λN2 h2=>?_;ext))
set_option hygiene false in
local macro_rules|`(tactic|ac_nf)=>`(tactic|(refine am λN2 h2=>?_;ext))
set_option hygiene false in
local macro_rules|`(tactic|walk_at "f")=>`(tactic|refine F.ok sc (λvs H Q E h=>by cases h;subst_vars;rfl) (λcdv A outer s H vs Q E hr h=>?_))
set_option hygiene false in
local macro_rules|`(tactic|walk_at "c")=>`(tactic|exact⟨rfl,rfl,rfl,by decide +kernel,rfl,by decide +kernel,by decide +kernel⟩)
def fY(i:Nat):Stmt:=PySem.Challenge.pw_quiltlaw_k25_first_tree_laid.main.body.getD i (.Pass ⟨0,0,0,0⟩)
def Dx:Stmt->List Stmt
 | .ClassDef (body:=b) ..=>b
 |_=>[]
def jp(i j:Nat):Stmt:=(Dx (fY i)).getD j (.Pass ⟨0,0,0,0⟩)
section
variable {P:LV}{w:LY}{K:W.Frag}{mg:LS}{base:Heap}
abbrev Gj(z:Str)(c:Nat):Bool:=!(Builtin.Str.occurrences z ⟨#[c]⟩ 0 z.length 1).isEmpty
abbrev mH:Stmt:=fY 35
def kf(r:LO)(z:Str):Bool:=r.all (Gj z)
inductive il(vs:List V)(H:Hp)(Q:VK)(_E:XK):Prop
 |mk (r:LO) (z:Str) (_:vs=[.str (tx r),.str z]) (_:r.length<=100000) (_:∀H',az H H'->Q (.bl (kf r z)) H')
theorem wZ:aG ["text","letters"] ["text","letters"] (aq mH):=by walk_at "c"
theorem JC{i c:Nat}(h:(tx r).cps[i]?=some c):r[i]?=some c:=by
 rw[<- h];show r[i]?=r.toArray[i]?;simp
theorem HG(r:LO):(tx r).cps.size=r.length:=by show r.toArray.size=_;simp
theorem xq{f:Addr}(F:dG K "only_of" "only_of" mH f fd)(nb:NB mg):↑bj 1 f fd ["text","letters"] il:=by
 have sc:=wZ;walk_at "f"
 ·obtain⟨r,z,rfl,hr',q⟩:=h
  refine⟨_,(ag (aM (aE (A6 rfl) rfl nb.all EX (ac (cH ["sign"] [1] rfl (bY.of f⁻¹) f⁻¹ (Fu (al 0))
    (λ_ _ _ _=>(ay (i:=0) (by show(["sign","letters"]:List Str).Nodup;decide +kernel) rfl (Or.inl rfl))) (λ_ _ _ _=>cJ) (λ_ _ _ _=>(gm zM (al 0) (al 1) (by with_unfolding_all rfl)))) ad)))),?_⟩
  ext;refine BO (x:=tx r) (λi a σ g=>g=H/\a=((r.take i).map (Gj z)).map V.bl/\i<=r.length/\∃x,σ=[x,some (.str z)]) ⟨rfl,rfl,Lc _,_,rfl⟩ ?_ ?_ ?_ ?_
  ·rintro i a σ g ⟨_,rfl,m,_⟩
   rw[KO,KO,Lq];exact bc ⋯
  ·rintro i a σ g ⟨_,_,h,_⟩
   rw[HG];exact h
  ·rintro i c a σ g n ⟨rfl,rfl,m,y,rfl⟩
   have b:=JC n;have j:=(KM.mp b).1;ext;refine⟨?_,j⟩;rw[q0E,b];simp
  ·rintro a σ g ⟨rfl,rfl,_⟩ l k
   refine⟨_,aQ.of af,?_⟩;rw[HG,Lp];have e:(r.map (Gj z)).all id=kf r z:=by unfold kf;rw[List.all_map];rfl
   rw[e];exact q _ (aj k)
abbrev mZ:Stmt:=fY 36
abbrev E6:Str:="ABCDEFGHIJKLMNOPQRSTUVWXYZ"
def dN(r:LO):Bool:=decide (1<=r.length)&&decide (r.length<=4)&&kf r E6
inductive kE(vs:List V)(H:Hp)(Q:VK)(_E:XK):Prop
 |mk (r:LO) (_:vs=[.str (tx r)]) (_:r.length<=100000) (_:∀H',az H H'->Q (.bl (dN r)) H')
theorem xf:aG ["text"] ["text"] (aq mZ):=by walk_at "c"
theorem wN{f:Addr}{t1 t2:Tok}(F:dG K "is_name" "is_name" mZ f fd)(nb:NB mg)(yax:mg "LONGEST_NAME"=some (.int 4 t1))(yaU:mg "CAPITALS"=some (.str "ABCDEFGHIJKLMNOPQRSTUVWXYZ" t2))(yaf:↑dF 1 "only_of" ["text","letters"] il):↑bj 2 f fd ["text"] kE:=by
 have sc:=xf;walk_at "f"
 ·obtain⟨r,rfl,a,q⟩:=h
  refine⟨_,(ag (aM (jc (v4 (bC.m0 pZ) (bC.m0 pZ) ai (aE bw rfl nb.len ba (ac (al 0) ad)) (cW (v:=.int 4) rfl yax ⟨_,rfl⟩)) (mR (q00 yaf hr (ac (al 0) (ac (cW (v:=.str "ABCDEFGHIJKLMNOPQRSTUVWXYZ") rfl yaU ⟨_,rfl⟩) ad))))))),?_⟩;ext;refine⟨by rw[ax];exact au ⋯,?_⟩;rw[ax];unfold dN at q
  by_cases h1:1<=r.length
  ·rw[q07 ⋯]
   by_cases h2:r.length<=4
   ·rw[q07 ⋯]
    refine⟨r,_,rfl,a,λc b=>?_⟩;have z:=q c b;rw[q09 h1,q09 h2]at z;exact z
   ·rw[q06 ⋯]
    have z:=q H (λ_ _ e=>e);rw[q09 h1,q08 h2]at z;exact z
  ·rw[q06 ⋯]
   have z:=q H (λ_ _ e=>e);rw[q08 h1]at z;exact z
abbrev gx:Stmt:=jp 37 0
inductive dr(K:W.Frag)(vs:List V)(H:Hp)(Q:VK)(_E:XK):Prop
 |mk (a C dx l:Addr) (n:LO) (c:Int) (ps:aL) (_:vs=[.ref a,.str (tx n),.int c,.ref l]) (_:H a=some (.ins C dx [])) (_:jA K C) (_:aC K C "name") (_:aC K C "cost") (_:aC K C "part_names") (_:H l=some (.lst (ao ps))) (_:ps.length<=1000) (_:(∀r∈n::ps,r.length<=100000)) (_:((∀r∈n::ps,dN r=true)/\1<=c/\c<=9)) (_:∀H',az H H'->Q .non (aD H' a (.ins C dx [("name",.str (tx n)),("cost",.int c),("part_names",.ref l)])))
theorem dU{st:Stmt}:PS X st (λ_ _ _=>False):=λ_ _ _ _ _ _ h=>h.elim
theorem uG:aG ["self","name","cost","part_names","text"] ["self","name","cost","part_names"] (aq gx):=by walk_at "c"
theorem sw{f:Addr}(F:dG K "__init__" "Rule.__init__" gx f fd)(nb:NB mg)(yan:↑dF 2 "is_name" ["text"] kE):↑bj 3 f fd ["self","name","cost","part_names"] (dr K):=by
 have sc:=uG;walk_at "f"
 ·obtain⟨a,C,G,l,n,c,ps,rfl,U,I,R,O,M,T,hpl,j,ok,good⟩:=h
  refine⟨_,(ae (bF PassesOwn.never rfl (bR (aw wH (bI (ac (al 1) ad)) (al 3))) (q02 4 sc.nd)
   (ag (bL (iF (g8 (q00 yan hr (ac (al 4) ad)) λ_=>rfl))
   (ag dU)
   aW)))
   (ae (bL (PW.pt (kh (aN (bC.m0 ot) (al 2) ai (aR _)) (iK (aN (bC.m0 lK) (al 2) ai (aR _)))))
   (ag dU)
   aW)
   (ae (c8 (al 0) (al 1) rfl)
   (ae (c8 (al 0) (al 2) rfl)
   (ag (c8 (al 0) (al 3) rfl)))))),?_⟩
  ext;refine⟨au ⋯,λp S=>?_⟩;have m1:az H (aD H p (.lst [V.str (tx n)])):=aj S;have L:aD H p (.lst [V.str (tx n)]) p=some (.lst [V.str (tx n)]):=af;generalize aD H p (.lst [V.str (tx n)])=H1 at m1 L ⊢;refine⟨_,L,_,m1 _ _ T,by rw[ak];exact au (by simp;omega),λm z=>?_⟩;have D:[V.str (tx n)]++ao ps=ao (n::ps):=rfl;rw[D];have J:az H1 (aD H1 m (.lst (ao (n::ps)))):=aj z;have o:aD H1 m (.lst (ao (n::ps))) m=some (.lst (ao (n::ps))):=af;generalize aD H1 m (.lst (ao (n::ps)))=H2 at J o ⊢;generalize hqs:n::ps=qs at j ok o ⊢;have u:=m1.trans J;refine⟨⟨_,aQ.of o⟩,b5 (xs:=ao qs) (λi σ k=>az H2 k/\∃x,σ=[some (.ref a),some (.str (tx n)),some (.int c),some (.ref l),x]) ⟨λ_ _ e=>e,_,rfl⟩ (λi σ k _ h=>aQ.of (h.1 _ _ o)) ?_ ?_⟩
  ·rintro i v σ k y ⟨r,x,rfl⟩
   have B:i<qs.length:=by have:=(KM.mp y).1;rwa [ak]at this
   rw[bz B]at y;cases y;ext;refine⟨_,rfl,j _ (KY B),λH3 q=>⟨_,rfl,?_⟩⟩;rw[q06 (by rw[ok.1 _ (KY B)];decide)];exact r.trans q
  ·rintro σ k ⟨r,x,rfl⟩
   have b:=u.trans r;ext;rw[q06 ⋯,q06 ⋯];have g:=good k b;have l1:(cM "name" (V.str (tx n)) []).length<=1:=dj _ _ _;have l2:(cM "cost" (V.int c) (cM "name" (V.str (tx n)) [])).length<=2:=Lj (dj _ _ _) ⋯;have d1:¬ (("name":Str)="cost"):=by decide +kernel
   have Z:¬ (("name":Str)="part_names"):=by decide +kernel
   have Y:¬ (("cost":Str)="part_names"):=by decide +kernel
   have e:cM "part_names" (V.ref l) (cM "cost" (V.int c) (cM "name" (V.str (tx n)) []))=[(("name":Str),V.str (tx n)),(("cost":Str),V.int c),(("part_names":Str),V.ref l)]:=by
    simp only[cM,q06 d1,q06 Z,q06 Y]
   refine⟨C,G,[],b _ _ U,I,R,by simp,C,G,_,af,I,O,⋯,C,G,_,af,I,M,⋯,?_⟩;rw[k8,k8,e];exact g
def bv(a:Addr)(H H':Hp):Prop:=∀b o,b≠a->H b=some o->H' b=some o
theorem bv.of(s:az H H'):bv a H H':=λb o _ e=>s b o e
theorem bv.put(s:bv a H H'):bv a H (aD H' a o):=λb u hb e=>by rw[ar hb];exact s b u hb e
theorem bv.then{H2:Hp}(s:bv a H H')(t:az H' H2):bv a H H2:=λb u hb e=>t b u (s b u hb e)
theorem bv.trans{H2:Hp}(s:bv a H H')(t:bv a H' H2):bv a H H2:=λb u hb e=>t b u hb (s b u hb e)
abbrev Gz:Str:="abcdefghijklmnopqrstuvwxyz"
def hU(r:LO):Bool:=decide (r.length=1)&&kf r Gz
def kN(n:LO)(ps:aL)(c:Int):Prop:=(∀r∈n::ps,dN r=true)/\1<=c/\c<=9
abbrev gb:Stmt:=jp 38 0
inductive ii(K:W.Frag)(vs:List V)(H:Hp)(Q:VK)(_E:XK):Prop
 |mk (a C dx:Addr) (n sg:LO) (c:Int) (_:vs=[.ref a,.str (tx n),.int c,.str (tx sg)]) (_:H a=some (.ins C dx [])) (_:jA K C) (_:(aC K C "name"/\aC K C "cost"/\aC K C "part_names"/\aC K C "sign")) (_:n.length<=100000) (_:sg.length<=100000) (_:(kN n [] c/\hU sg=true)) (_:∀(l:Addr) (H':Hp),bv a H H'->H l=none->H' l=some (.lst [])->H' a=some (.ins C dx [("name",.str (tx n)),("cost",.int c),("part_names",.ref l),("sign",.str (tx sg))])->Q .non H')
theorem tG:aG ["self","name","cost","sign"] ["self","name","cost","sign"] (aq gb):=by walk_at "c"
theorem su{f:Addr}{t3:Tok}(F:dG K "__init__" "CellRule.__init__" gb f fd)(nb:NB mg)(yam:mg "SMALLS"=some (.str "abcdefghijklmnopqrstuvwxyz" t3))
  (yaf:↑dF 1 "only_of" ["text","letters"] il) (zfa:↑Ac 3 "Rule" "__init__" ["self","name","cost","part_names"] (dr K)):↑bj 4 f fd ["self","name","cost","sign"] (ii K):=by
 have sc:=tG;walk_at "f"
 ·obtain⟨a,C,g,n,k,c,rfl,y,D,⟨L,J,I,G⟩,M,q,⟨ok,p⟩,good⟩:=h
  refine⟨_,(ae (bi (oj zfa (hr.mono b⁻¹) rfl aK (ac (al 0) (ac (al 1) (ac (al 2) (ac (bI ad) ad))))))
   (ae (bL (PW.pt (kh (aN yj (aE bw rfl nb.len ba (ac (al 3) ad)) ai (aR _)) (iK (iF (g8 (q00 yaf hr (ac (al 3) (ac (cW (v:=.str "abcdefghijklmnopqrstuvwxyz") rfl yam ⟨_,rfl⟩) ad))) λ_=>rfl)))))
   (ag dU)
   aW)
   (ag (c8 (al 0) (al 3) rfl)))),?_⟩
  ext;refine⟨Lc _,λl o=>?_⟩;have m1:az H (aD H l (.lst [])):=aj o;have u:aD H l (.lst []) l=some (.lst []):=af;generalize aD H l (.lst [])=H1 at m1 u ⊢;have m:l≠a:=λe=>by rw[e,y]at o;cases o
  refine⟨a,C,g,l,n,c,[],rfl,m1 _ _ y,D,L,J,I,u,by simp,λr hr=>by rw[show r=n by simpa using hr];exact M,ok,λH2 j=>?_⟩;have x:bv a H (aD H2 a (.ins C g [("name",.str (tx n)),("cost",.int c),("part_names",.ref l)])):=(bv.of (m1.trans j)).put;have B:aD H2 a (.ins C g [("name",.str (tx n)),("cost",.int c),("part_names",.ref l)]) a=some (.ins C g [("name",.str (tx n)),("cost",.int c),("part_names",.ref l)]):=af;have z:aD H2 a (.ins C g [("name",.str (tx n)),("cost",.int c),("part_names",.ref l)]) l=some (.lst []):=by rw[ar m];exact j _ _ u
  generalize aD H2 a (.ins C g [("name",.str (tx n)),("cost",.int c),("part_names",.ref l)])=H3 at x B z ⊢
  try dsimp only
  obtain⟨h1,O⟩:k.length=1/\kf k Gz=true:=by
   have h:=p;unfold hU at h;rw[q0O,q0b]at h;exact h
  refine⟨by rw[ax];exact au ⋯,?_⟩;rw[ax,q06 (λh=>h ⋯)];refine⟨k,_,rfl,q,λH4 b=>⟨_,rfl,?_⟩⟩;rw[q06 (by rw[O];decide)];have T:¬ (("name":Str)="sign"):=by decide +kernel
  have S:¬ (("cost":Str)="sign"):=by decide +kernel
  have R:¬ (("part_names":Str)="sign"):=by decide +kernel
  have e:cM "sign" (V.str (tx k)) [(("name":Str),V.str (tx n)),(("cost":Str),V.int c),(("part_names":Str),V.ref l)]=[(("name":Str),V.str (tx n)),(("cost":Str),V.int c),(("part_names":Str),V.ref l),(("sign":Str),V.str (tx k))]:=by
   simp only[cM,q06 T,q06 S,q06 R]
  refine⟨C,g,_,b _ _ B,D,G,by simp,?_⟩;rw[e];exact good l _ (x.then b).put o (by rw[ar m];exact b _ _ z) af
inductive dv(K:W.Frag)(vs:List V)(H:Hp)(Q:VK)(_E:XK):Prop
 |mk (a C dx:Addr) (n o1 o2:LO) (c:Int) (_:vs=[.ref a,.str (tx n),.int c,.str (tx o1),.str (tx o2)]) (_:H a=some (.ins C dx [])) (_:jA K C) (_:(aC K C "name"/\aC K C "cost"/\aC K C "part_names"/\aC K C "one"/\aC K C "other")) (_:n.length<=100000) (_:o1.length<=100000) (_:o2.length<=100000) (_:kN n [o1,o2] c) (_:∀(l:Addr) (H':Hp),bv a H H'->H l=none->H' l=some (.lst (ao [o1,o2]))->H' a=some (.ins C dx [("name",.str (tx n)),("cost",.int c),("part_names",.ref l),("one",.str (tx o1)),("other",.str (tx o2))])->Q .non H')
theorem u6{c:Int}:cM "other" (V.str (tx o2)) (cM "one" (V.str (tx o1)) [(("name":Str),V.str (tx n)),(("cost":Str),V.int c),(("part_names":Str),V.ref l)])=[(("name":Str),V.str (tx n)),(("cost":Str),V.int c),(("part_names":Str),V.ref l),(("one":Str),V.str (tx o1)),(("other":Str),V.str (tx o2))]:=by
 have m:¬ (("name":Str)="one"):=by decide +kernel
 have k:¬ (("cost":Str)="one"):=by decide +kernel
 have j:¬ (("part_names":Str)="one"):=by decide +kernel
 have g:¬ (("name":Str)="other"):=by decide +kernel
 have e:¬ (("cost":Str)="other"):=by decide +kernel
 have b:¬ (("part_names":Str)="other"):=by decide +kernel
 have a:¬ (("one":Str)="other"):=by decide +kernel
 simp only[cM,q06 m,q06 k,q06 j,q06 g,q06 e,q06 b,q06 a]
abbrev eS:Stmt:=jp 39 0
theorem oP:aG ["self","name","cost","one","other"] ["self","name","cost","one","other"] (aq eS):=by walk_at "c"
theorem pV{f:Addr}(F:dG K "__init__" "BesideRule.__init__" eS f fd)(nb:NB mg)
  (zfa:↑Ac 3 "Rule" "__init__" ["self","name","cost","part_names"] (dr K)):↑bj 4 f fd ["self","name","cost","one","other"] (dv K):=by
 have sc:=oP;walk_at "f"
 ·obtain⟨a,C,b,n,j,g,c,rfl,y,v,⟨L,J,I,G,D⟩,M,q,p,ok,good⟩:=h
  refine⟨_,(ae (bi (oj zfa (hr.mono b⁻¹) rfl aK (ac (al 0) (ac (al 1) (ac (al 2) (ac (bI (ac (al 3) (ac (al 4) ad))) ad))))))
   (ae (c8 (al 0) (al 3) rfl)
   (ag (c8 (al 0) (al 4) rfl)))),?_⟩
  ext;refine⟨au ⋯,λl o=>?_⟩;have m1:az H (aD H l (.lst [V.str (tx j),V.str (tx g)])):=aj o;have u:aD H l (.lst [V.str (tx j),V.str (tx g)]) l=some (.lst (ao [j,g])):=af;generalize aD H l (.lst [V.str (tx j),V.str (tx g)])=H1 at m1 u ⊢;have m:l≠a:=λe=>by rw[e,y]at o;cases o
  refine⟨a,C,b,l,n,c,[j,g],rfl,m1 _ _ y,v,L,J,I,u,by simp,λr hr=>?_,ok,λH2 k=>?_⟩
  ·have O:r=n\/r=j\/r=g:=by simpa using hr
   rcases O with rfl | rfl | rfl
   ·exact M
   ·exact q
   ·exact p
  ·have x:bv a H (aD H2 a a⁻¹):=(bv.of (m1.trans k)).put
   have B:aD H2 a a⁻¹ a=some a⁻¹:=af;have z:aD H2 a a⁻¹ l=some (.lst (ao [j,g])):=by rw[ar m];exact k _ _ u
   generalize aD H2 a a⁻¹=H3 at x B z ⊢
   try dsimp only
   refine⟨C,b,_,B,v,G,by simp,C,b,_,af,v,D,?_,?_⟩
   ·exact Lv (dj _ _ _) (by simp)
   ·rw[k8,u6]
    exact good l _ x.put o (by rw[ar m];exact z) af
abbrev fD:Stmt:=jp 40 0
theorem qr:aG ["self","name","cost","one","other"] ["self","name","cost","one","other"] (aq fD):=by walk_at "c"
theorem qy{f:Addr}(F:dG K "__init__" "AboveRule.__init__" fD f fd)(nb:NB mg)
  (zfa:↑Ac 3 "Rule" "__init__" ["self","name","cost","part_names"] (dr K)):↑bj 4 f fd ["self","name","cost","one","other"] (dv K):=by
 have sc:=qr;walk_at "f"
 ·obtain⟨a,C,b,n,j,g,c,rfl,y,v,⟨L,J,I,G,D⟩,M,q,p,ok,good⟩:=h
  refine⟨_,(ae (bi (oj zfa (hr.mono b⁻¹) rfl aK (ac (al 0) (ac (al 1) (ac (al 2) (ac (bI (ac (al 3) (ac (al 4) ad))) ad))))))
   (ae (c8 (al 0) (al 3) rfl)
   (ag (c8 (al 0) (al 4) rfl)))),?_⟩
  ext;refine⟨au ⋯,λl o=>?_⟩;have m1:az H (aD H l (.lst [V.str (tx j),V.str (tx g)])):=aj o;have u:aD H l (.lst [V.str (tx j),V.str (tx g)]) l=some (.lst (ao [j,g])):=af;generalize aD H l (.lst [V.str (tx j),V.str (tx g)])=H1 at m1 u ⊢;have m:l≠a:=λe=>by rw[e,y]at o;cases o
  refine⟨a,C,b,l,n,c,[j,g],rfl,m1 _ _ y,v,L,J,I,u,by simp,λr hr=>?_,ok,λH2 k=>?_⟩
  ·have O:r=n\/r=j\/r=g:=by simpa using hr
   rcases O with rfl | rfl | rfl
   ·exact M
   ·exact q
   ·exact p
  ·have x:bv a H (aD H2 a a⁻¹):=(bv.of (m1.trans k)).put
   have B:aD H2 a a⁻¹ a=some a⁻¹:=af;have z:aD H2 a a⁻¹ l=some (.lst (ao [j,g])):=by rw[ar m];exact k _ _ u
   generalize aD H2 a a⁻¹=H3 at x B z ⊢
   try dsimp only
   refine⟨C,b,_,B,v,G,by simp,C,b,_,af,v,D,?_,?_⟩
   ·exact Lv (dj _ _ _) (by simp)
   ·rw[k8,u6]
    exact good l _ x.put o (by rw[ar m];exact z) af
inductive iq(K:W.Frag)(vs:List V)(H:Hp)(Q:VK)(_E:XK):Prop
 |mk (a C dx:Addr) (n o1:LO) (c t:Int) (_:vs=[.ref a,.str (tx n),.int c,.str (tx o1),.int t]) (_:H a=some (.ins C dx [])) (_:jA K C) (_:(aC K C "name"/\aC K C "cost"/\aC K C "part_names"/\aC K C "part"/\aC K C "turning")) (_:n.length<=100000) (_:o1.length<=100000) (_:(kN n [o1] c/\0<=t/\t<=7)) (_:∀(l:Addr) (H':Hp),bv a H H'->H l=none->H' l=some (.lst (ao [o1]))->H' a=some (.ins C dx [("name",.str (tx n)),("cost",.int c),("part_names",.ref l),("part",.str (tx o1)),("turning",.int t)])->Q .non H')
theorem BU{c t:Int}:cM "turning" (V.int t) (cM "part" (V.str (tx o1)) [(("name":Str),V.str (tx n)),(("cost":Str),V.int c),(("part_names":Str),V.ref l)])=[(("name":Str),V.str (tx n)),(("cost":Str),V.int c),(("part_names":Str),V.ref l),(("part":Str),V.str (tx o1)),(("turning":Str),V.int t)]:=by
 have m:¬ (("name":Str)="part"):=by decide +kernel
 have k:¬ (("cost":Str)="part"):=by decide +kernel
 have j:¬ (("part_names":Str)="part"):=by decide +kernel
 have g:¬ (("name":Str)="turning"):=by decide +kernel
 have e:¬ (("cost":Str)="turning"):=by decide +kernel
 have b:¬ (("part_names":Str)="turning"):=by decide +kernel
 have a:¬ (("part":Str)="turning"):=by decide +kernel
 simp only[cM,q06 m,q06 k,q06 j,q06 g,q06 e,q06 b,q06 a]
abbrev gz:Stmt:=jp 41 0
theorem ut:aG ["self","name","cost","part","turning"] ["self","name","cost","part","turning"] (aq gz):=by walk_at "c"
theorem ux{f:Addr}(F:dG K "__init__" "TurnRule.__init__" gz f fd)(nb:NB mg)
  (zfa:↑Ac 3 "Rule" "__init__" ["self","name","cost","part_names"] (dr K)):↑bj 4 f fd ["self","name","cost","part","turning"] (iq K):=by
 have sc:=ut;walk_at "f"
 ·obtain⟨a,C,b,n,g,c,t,rfl,v,q,⟨I,G,D,B,z⟩,J,o,⟨ok,t0,t7⟩,good⟩:=h
  refine⟨_,(ae (bi (oj zfa (hr.mono b⁻¹) rfl aK (ac (al 0) (ac (al 1) (ac (al 2) (ac (bI (ac (al 3) ad)) ad))))))
   (ae (bL (PW.pt (kh (aN (bC.m0 ot) (al 4) ai (aR _)) (iK (aN (bC.m0 lK) (al 4) ai (aR _)))))
   (ag dU)
   aW)
   (ae (c8 (al 0) (al 3) rfl)
   (ag (c8 (al 0) (al 4) rfl))))),?_⟩
  ext;refine⟨au ⋯,λl m=>?_⟩;have m1:az H (aD H l (.lst [V.str (tx g)])):=aj m;have p:aD H l (.lst [V.str (tx g)]) l=some (.lst (ao [g])):=af;generalize aD H l (.lst [V.str (tx g)])=H1 at m1 p ⊢;have k:l≠a:=λe=>by rw[e,v]at m;cases m
  refine⟨a,C,b,l,n,c,[g],rfl,m1 _ _ v,q,I,G,D,p,by simp,λr hr=>?_,ok,λH2 j=>?_⟩
  ·have L:r=n\/r=g:=by simpa using hr
   rcases L with rfl | rfl
   ·exact J
   ·exact o
  ·have u:bv a H (aD H2 a a⁻¹):=(bv.of (m1.trans j)).put
   have y:aD H2 a a⁻¹ a=some a⁻¹:=af;have x:aD H2 a a⁻¹ l=some (.lst (ao [g])):=by rw[ar k];exact j _ _ p
   generalize aD H2 a a⁻¹=H3 at u y x ⊢
   try dsimp only
   rw[q06 ⋯,q06 ⋯];refine⟨C,b,_,y,q,B,by simp,C,b,_,af,q,z,?_,?_⟩
   ·exact Lv (dj _ _ _) (by simp)
   ·rw[k8,BU]
    exact good l _ u.put m (by rw[ar k];exact x) af
abbrev fA:Stmt:=jp 37 1
inductive cO(K:W.Frag)(vs:List V)(H:Hp)(Q:VK)(_E:XK):Prop
 |mk (a C dx l:Addr) (fs:List (Str×V)) (ps:aL) (_:vs=[.ref a]) (_:H a=some (.ins C dx fs)) (_:jA K C) (_:aC K C "part_names") (_:fs.lookup ("part_names":Str)=some (V.ref l)) (_:H l=some (.lst (ao ps))) (_:fO H ps Q)
theorem qo:aG ["self"] ["self"] (aq fA):=by walk_at "c"
theorem eR{f:Addr}(F:dG K "parts" "Rule.parts" fA f fd)(nb:NB mg):↑bj 1 f fd ["self"] (cO K):=by
 have sc:=qo;walk_at "f"
 ·obtain⟨a,C,m,l,fs,ps,rfl,k,n,c,e,j,q⟩:=h
  refine⟨_,(ag (aM (c5 cy rfl nb.list eU (ac (cq (al 0) rfl) ad)))),?_⟩;ext;refine⟨C,m,fs,k,n,c,V.ref l,e,l,rfl,_,.inl (aQ.of j),λg b=>q g _ b af (aj b)⟩
abbrev Gw(n:LO)(c:Int)(l:Addr)(sg:LO):List (Str×V):=[("name",.str (tx n)),("cost",.int c),("part_names",.ref l),("sign",.str (tx sg))]
abbrev El(n:LO)(c:Int)(l:Addr)(o1 o2:LO):List (Str×V):=[("name",.str (tx n)),("cost",.int c),("part_names",.ref l),("one",.str (tx o1)),("other",.str (tx o2))]
abbrev Ex(n:LO)(c:Int)(l:Addr)(o1:LO)(t:Int):List (Str×V):=[("name",.str (tx n)),("cost",.int c),("part_names",.ref l),("part",.str (tx o1)),("turning",.int t)]
theorem jQ(h:dN r=true):1<=r.length/\r.length<=4:=by
 unfold dN at h;rw[q0O,q0O,q0b,q0b]at h;exact h.1
theorem zL(h:hU r=true):r.length=1:=by
 unfold hU at h;rw[q0O,q0b]at h;exact h.1
theorem am{a b:TS}{D:gO}{σ:St}(h:∀N:St->Hp->Prop,(∀σ2 H2,b D σ2 H2->N σ2 H2)->a {D with nx:=N} σ H):Ap a b D σ H:=h (b D) λ_ _ z=>z
abbrev mj:Stmt:=fY 68
inductive kC(vs:List V)(H:Hp)(Q:VK)(_E:XK):Prop
 |mk (i:Int) (_:vs=[.int i]) (_:Q (.bl true) H)
theorem xN:aG ["_law_x"] ["_law_x"] (aq mj):=by walk_at "c"
theorem xw{f:Addr}(F:dG K "_law_whole" "_law_whole" mj f fd)(nb:NB mg):↑bj 1 f fd ["_law_x"] kC:=by
 have sc:=xN;walk_at "f"
 ·obtain⟨i,rfl,q⟩:=h
  refine⟨_,(ag (aM (jc (aE c3 rfl nb.isinstance c4 (ac (al 0) (ac (t9 (v:=.ty "int") rfl nb.int Fo rfl) ad))) (mR (Bz (aE c3 rfl nb.isinstance c4 (ac (al 0) (ac (t9 (v:=.ty "bool") rfl nb.bool DI rfl) ad)))))))),?_⟩;ext;refine⟨_,jw.int i,_,vi K _,?_⟩;ext;refine⟨_,jw.int i,_,uJ K,?_⟩;exact q
structure RV where
 n:List Nat
 c:Int
 o1:List Nat
 o2:List Nat
 sg:List Nat
 t:Int
abbrev Yaa:=List (Nat×RV)
structure RC where
 rr:Addr
 cc:Addr
 cb:Addr
 ca:Addr
 ct:Addr
def RC.at(R:RC)(k:Nat):Addr:=match k with | 0=>R.cc | 1=>R.cb | 2=>R.ca | _=>R.ct
def tM(k:Nat)(l:Addr)(v:RV):List (Str×V):=match k with | 0=>Gw v.n v.c l v.sg | 1=>El v.n v.c l v.o1 v.o2 | 2=>El v.n v.c l v.o1 v.o2 | _=>Ex v.n v.c l v.o1 v.t
def bT(k:Nat)(v:RV):aL:=match k with | 0=>[] | 1=>[v.o1,v.o2] | 2=>[v.o1,v.o2] | _=>[v.o1]
def Kq(k:Nat)(v:RV):Prop:=match k with | 0=>kN v.n [] v.c/\hU v.sg=true | 1=>kN v.n [v.o1,v.o2] v.c | 2=>kN v.n [v.o1,v.o2] v.c | _=>kN v.n [v.o1] v.c/\0<=v.t/\v.t<=7
structure RV.small(v:RV):Prop where
 n:v.n.length<=1000
 o1:v.o1.length<=1000
 o2:v.o2.length<=1000
 sg:v.sg.length<=1000
structure RV.good(v:RV):Prop where
 n:dN v.n=true
 c1:1<=v.c
 c9:v.c<=9
 o1:dN v.o1=true
 o2:dN v.o2=true
 sg:hU v.sg=true
 t0:0<=v.t
 t7:v.t<=7
theorem RV.good.small{v:RV}(g:v.good):v.small:=⟨by have:=jQ g.n;omega,by have:=jQ g.o1;omega,by have:=jQ g.o2;omega,by have:=zL g.sg;omega⟩
theorem RV.good.ok{v:RV}(g:v.good):∀k,Kq k v
 |0=>⟨⟨λr hr=>by rw[show r=v.n by simpa using hr];exact g.n,g.c1,g.c9⟩,g.sg⟩
 |1=>⟨λr hr=>by rcases(show r=v.n\/r=v.o1\/r=v.o2 by simpa using hr) with rfl | rfl | rfl<;>first | exact g.n | exact g.o1 | exact g.o2,g.c1,g.c9⟩
 |2=>⟨λr hr=>by rcases(show r=v.n\/r=v.o1\/r=v.o2 by simpa using hr) with rfl | rfl | rfl<;>first | exact g.n | exact g.o1 | exact g.o2,g.c1,g.c9⟩
 |_+3=>⟨⟨λr hr=>by rcases(show r=v.n\/r=v.o1 by simpa using hr) with rfl | rfl<;>first | exact g.n | exact g.o1,g.c1,g.c9⟩,g.t0,g.t7⟩
def fV(R:RC)(H:Hp)(k:Nat)(a:Addr)(v:RV):Prop:=∃dx l,H a=some (.ins (R.at k) dx (tM k l v))/\H l=some (.lst (ao (bT k v)))
theorem fV.up(r:fV R H k a v)(s:az H H'):fV R H' k a v:=by
 obtain⟨b,l,h1,h2⟩:=r;exact⟨b,l,s _ _ h1,s _ _ h2⟩
structure ki(K:W.Frag)(R:RC):Prop where
 i0:jn K R.cc
 i1:jn K R.cb
 i2:jn K R.ca
 i3:jn K R.ct
 a0:aC K R.cc "name"/\aC K R.cc "cost"/\aC K R.cc "part_names"/\aC K R.cc "sign"
 a1:aC K R.cb "name"/\aC K R.cb "cost"/\aC K R.cb "part_names"/\aC K R.cb "one"/\aC K R.cb "other"
 a2:aC K R.ca "name"/\aC K R.ca "cost"/\aC K R.ca "part_names"/\aC K R.ca "one"/\aC K R.ca "other"
 a3:aC K R.ct "name"/\aC K R.ct "cost"/\aC K R.ct "part_names"/\aC K R.ct "part"/\aC K R.ct "turning"
 r0:W.kitOne K (.ref R.cc) (.ref R.rr)=some true
 r1:W.kitOne K (.ref R.cb) (.ref R.rr)=some true
 r2:W.kitOne K (.ref R.ca) (.ref R.rr)=some true
 r3:W.kitOne K (.ref R.ct) (.ref R.rr)=some true
 s0:W.kitOne K (.ref R.cc) (.ref R.cc)=some true
 s1:W.kitOne K (.ref R.cb) (.ref R.cb)=some true
 s2:W.kitOne K (.ref R.ca) (.ref R.ca)=some true
 s3:W.kitOne K (.ref R.ct) (.ref R.ct)=some true
theorem ki.icls(rk:ki K R):∀k,jn K (R.at k)
 |0=>rk.i0
 |1=>rk.i1
 |2=>rk.i2
 |_+3=>rk.i3
theorem ki.name(rk:ki K R):∀k,aC K (R.at k) "name"/\aC K (R.at k) "cost"/\aC K (R.at k) "part_names"
 |0=>⟨rk.a0.1,rk.a0.2.1,rk.a0.2.2.1⟩
 |1=>⟨rk.a1.1,rk.a1.2.1,rk.a1.2.2.1⟩
 |2=>⟨rk.a2.1,rk.a2.2.1,rk.a2.2.2.1⟩
 |_+3=>⟨rk.a3.1,rk.a3.2.1,rk.a3.2.2.1⟩
theorem jE(l:Addr)(v:RV):∀k,(tM k l v).lookup ("name":Str)=some (V.str (tx v.n))/\(tM k l v).lookup ("cost":Str)=some (V.int v.c)/\(tM k l v).lookup ("part_names":Str)=some (V.ref l)/\(tM k l v).lookup ("parts":Str)=none/\(tM k l v).lookup ("told":Str)=none
 |0=>⟨rfl,rfl,rfl,rfl,rfl⟩
 |1=>⟨rfl,rfl,rfl,rfl,rfl⟩
 |2=>⟨rfl,rfl,rfl,rfl,rfl⟩
 |_+3=>⟨rfl,rfl,rfl,rfl,rfl⟩
theorem jH{H1 H2:Hp}(hx:H1 x=none)(hd:H1 dx=none)(s:bv x (aD (aD H1 dx o) x o') H2):az H1 H2:=
 λb u e=>s b u (aI e hx) (by rw[ar (aI e hx),ar (aI e hd)];exact e)
theorem Et{CX:j9}(h0:∃ps,hZ P w K mg base CX k C0 m ps s0)(h1:∃ps,hZ P w K mg base CX k C1 m ps s1)(h2:∃ps,hZ P w K mg base CX k C2 m ps s2)(h3:∃ps,hZ P w K mg base CX k C3 m ps s3) :
  v3 P w K mg base CX k m [(C0,s0),(C1,s1),(C2,s2),(C3,s3)]:=⟨λo ho=>by
 simp only[K5,List.not_mem_nil,or_false]at ho;rcases ho with rfl | rfl | rfl | rfl
 ·exact h0
 ·exact h1
 ·exact h2
 ·exact h3⟩
def kJ(K:W.Frag)(R:RC):List (Addr×Sp):=[(R.cc,cO K),(R.cb,cO K),(R.ca,cO K),(R.ct,cO K)]
theorem rD{R:RC}{k a}{v:RV}{Q:VK}{E:XK}(rk:ki K R)(r:fV R H k a v)(q:fO H (bT k v) Q) :
  ∃o∈kJ K R,∃dx fs,H a=some (.ins o.1 dx fs)/\fs.lookup ("parts":Str)=none/\o.2 [.ref a] H Q E:=by
 obtain⟨dx,l,h1,h2⟩:=r;have c:cO K [.ref a] H Q E:=⟨a,R.at k,dx,l,_,_,rfl,h1,(rk.icls k).cl,(rk.name k).2.2,(jE l v k).2.2.1,h2,q⟩;have b:(R.at k,cO K)∈kJ K R:=by
  unfold kJ
  match k with
  |0=>simp[RC.at]
  |1=>simp[RC.at]
  |2=>simp[RC.at]
  |_+3=>simp[RC.at]
 exact⟨_,b,dx,_,h1,(jE l v k).2.2.2.1,c⟩
abbrev jz:Stmt:=fY 48
abbrev v9:Str:="abcdefghijklmnopqrstuvwxyz"
def jy(r:LO):Bool:=decide (1<=r.length)&&decide (r.length<=4)&&kf r v9&&decide ((met (dw (tx r))).length=r.length)
inductive lC(vs:List V)(H:Hp)(Q:VK)(_E:XK):Prop
 |mk (r:LO) (_:vs=[.str (tx r)]) (_:r.length<=1000) (_:∀H',az H H'->Q (.bl (jy r)) H')
theorem uh:aG ["text"] ["text"] (aq jz):=by walk_at "c"
theorem uE{f:Addr}{t1 t2:Tok}(F:dG K "are_signs" "are_signs" jz f fd)(nb:NB mg)(ya3:mg "MOST_SIGNS"=some (.int 4 t1))(yam:mg "SMALLS"=some (.str "abcdefghijklmnopqrstuvwxyz" t2))(yaf:↑dF 1 "only_of" ["text","letters"] il):↑bj 2 f fd ["text"] lC:=by
 have sc:=uh;walk_at "f"
 ·obtain⟨r,rfl,hr',q⟩:=h
  refine⟨_,(ag (aM (jc (v4 (bC.m0 pZ) (bC.m0 pZ) ai (aE bw rfl nb.len ba (ac (al 0) ad)) (cW (v:=.int 4) rfl ya3 ⟨_,rfl⟩)) (jc (q00 yaf hr (ac (al 0) (ac (cW (v:=.str "abcdefghijklmnopqrstuvwxyz") rfl yam ⟨_,rfl⟩) ad))) (mR (gm dz (zf rfl (al 0) rfl nb.len rfl nb.set) (aE bw rfl nb.len ba (ac (al 0) ad)) (aR _))))))),?_⟩;ext;refine⟨by rw[ax];exact au ⋯,?_⟩;rw[ax];unfold jy at q
  by_cases h1:1<=r.length
  ·rw[q07 ⋯]
   by_cases h2:r.length<=4
   ·rw[q07 ⋯]
    refine⟨r,_,rfl,⋯,λc b=>⟨_,rfl,?_⟩⟩;have z:=q c b;rw[q09 h1,q09 h2]at z;cases a:kf r v9 with
    |false=>
     rw[a]at z;rw[q06 (by simp)];exact z
    |true=>
     rw[a]at z;rw[q07 rfl];refine⟨by rw[HG];unfold scanBound;omega,by exact au ⋯,?_⟩;have e:decide (((met (dw (tx r))).length:Int)=(r.length:Int))=decide ((met (dw (tx r))).length=r.length):=by
      apply decide_eq_decide.mpr
      constructor<;>intro h<;>omega
     rw[e];exact z
   ·rw[q06 ⋯]
    have z:=q H (λ_ _ e=>e);rw[q09 h1,q08 h2]at z;exact z
  ·rw[q06 ⋯]
   have z:=q H (λ_ _ e=>e);rw[q08 h1]at z;exact z
theorem BN{α:Type}{l:List α}{i:Nat}{x:α}(h:l[i]?=some x):l.drop i=x::l.drop (i+1):=by
 obtain⟨a,e⟩:=KM.mp h;rw[q0T a,e]
structure Cn(K:W.Frag)(R:RC):Prop where
 kit:∀i j,i<4->j<4->W.kitOne K (.ref (R.at i)) (.ref (R.at j))=some (decide (i=j))
abbrev Gg(z x:Str):Bool:=!(Builtin.Str.occurrences z x 0 z.length 1).isEmpty
def gB(sg:Str):Yaa->Nat->Option Nat
 | [],_=>none
 |r::rs,j=>if r.1=0/\Gg sg (tx r.2.sg)=false then some j else gB sg rs (j+1)
def ig(sg st:LO)(rs:Yaa):Option (Str×List Int):=
 if jy sg=false then some ("signs",[]) else if dN st=false then some ("start",[]) else if 24<rs.length then some ("rules",[(rs.length:Int)]) else
  match gB (tx sg) rs 0 with
  |some k=>some ("sign",[(k:Int)])
  |none=>none
abbrev fe:Stmt:=fY 47
def bO(R:RC)(H:Hp)(as:LR)(rs:Yaa):Prop:=as.length=rs.length/\∀(i:Nat) a r,as[i]?=some a->rs[i]?=some r->fV R H r.1 a r.2
theorem bO.up(h:bO R H as rs)(s:az H H'):bO R H' as rs:=⟨h.1,λi a r e1 e2=>(h.2 i a r e1 e2).up s⟩
inductive gY(R:RC)(vs:List V)(H:Hp)(Q:VK)(_E:XK):Prop
 |mk (sg st:LO) (a:Addr) (as:LR) (rs:Yaa) (_:vs=[.str (tx sg),.str (tx st),.ref a]) (_:sg.length<=1000) (_:st.length<=1000) (_:H a=some (.lst (as.map V.ref))) (_:bO R H as rs) (_:(∀r∈rs,r.1<4)) (_:rs.length<=100) (_:ig sg st rs=none) (_:∀H',az H H'->Q .non H')
theorem mn:aG ["signs","start","rules","k","rule"] ["signs","start","rules"] (aq fe):=by walk_at "c"
theorem mN{f:Addr}{t1:Tok}(F:dG K "check_made_of" "check_made_of" fe f fd)(nb:NB mg)(rk:ki K R)(rk4:Cn K R)(yaL:mg "MOST_RULES"=some (.int 24 t1))(zVa:mg "CellRule"=some (.ref R.cc))
  (yaH:↑dF 2 "are_signs" ["text"] lC) (yan:↑dF 2 "is_name" ["text"] kE):↑bj 3 f fd ["signs","start","rules"] (gY R):=by
 have sc:=mn;walk_at "f"
 ·obtain⟨sg,J,a,M,j,rfl,Y,hst,ha,B,a1,hn,c,good⟩:=h
  refine⟨_,(ae (bL (iF (g8 (q00 yaH hr (ac (al 0) ad)) λ_=>rfl))
   (ag dU)
   aW)
   (ae (bL (iF (g8 (q00 yan hr (ac (al 1) ad)) λ_=>rfl))
   (ag dU)
   aW)
   (ae (bL (aN (bC.m0 lK) (aE aZ rfl nb.len ba (ac (al 2) ad)) (cW (v:=.int 24) rfl yaL ⟨_,rfl⟩) (aR _))
   (ag dU)
   aW)
   (ag (bF PassesOwn.never rfl (tE rfl nb.enumerate (ac (al 2) ad)) (ik (n:=2) rfl (aV (q02 3 sc.nd) (aV (q02 4 sc.nd) du)))
   (ag (bL (PW.pt (gK (g8 (aE c3 rfl nb.isinstance c4 (ac (al 4) (ac (cW (v:=.ref _) rfl zVa rfl) ad))) λ_=>rfl) (fB (aN sQ (cq (al 4) rfl) (al 0) (by with_unfolding_all rfl)))))
   (ag dU)
   aW))))))),?_⟩
  symm;refine⟨sg,rfl,Y,λH1 U=>⟨_,rfl,?_⟩⟩;unfold ig at c;have e1:jy sg=true:=by
   cases e:jy sg with
   |true=>rfl
   |false=>rw[q07 e]at c;cases c
  rw[q06 (by rw[e1];decide)]at c ⊢;refine h1 _ _ ?_;clear h1;ac_nf;refine⟨J,rfl,⋯,λH2 S=>⟨_,rfl,?_⟩⟩;have m:=U.trans S;have e2:dN J=true:=by
   cases e:dN J with
   |true=>rfl
   |false=>rw[q07 e]at c;cases c
  rw[q06 (by rw[e2];decide)]at c ⊢;refine h2 _ _ ?_;clear h2;have I:=m _ _ ha;have G:(M.map V.ref).length=j.length:=by rw[KO];exact B.1
  refine am λN3 h3=>?_;ext;refine⟨_,aQ.of I,?_⟩;rw[G];have a2:¬ 24<j.length:=λh=>by rw[q07 h]at c;cases c
  rw[q06 ⋯];rw[q06 a2]at c;refine h3 _ _ ?_;clear h3;ext;refine⟨_,aQ.of I,?_⟩;refine qX (xs:=M.map V.ref) (λi σ O=>az H O/\gB (tx sg) (j.drop i) i=gB (tx sg) j 0/\∃x y,σ=[some (.str (tx sg)),some (.str (tx J)),some (.ref a),x,y]) ⟨m,rfl,_,_,rfl⟩ ?_ ?_ ?_
  ·rintro i σ O _ ⟨u,_⟩
   exact aQ.of (u _ _ ha)
  ·rintro i x σ H3 T q ⟨u,hb,x1,y1,rfl⟩ hT
   have D:i<j.length:=by have:=(KM.mp q).1;rw[G]at this;exact this
   obtain⟨g,Z,rfl⟩:∃g,M[i]?=some g/\V.ref g=x:=by
    rw[KQ]at q;cases e:M[i]? with
    |none=>rw[e]at q;cases q
    |some g=>rw[e]at q;exact⟨g,rfl,q0S q⟩
   have p:j[i]?=some j[i]:=KL D;have C:=a1 _ (KY D);generalize j[i]=r at p C;rw[BN p]at hb;have k:az H (aD H3 T (.tup [V.int (i:Int),V.ref g])):=u.trans (aj hT);have eT:aD H3 T (.tup [V.int (i:Int),V.ref g]) T=some (.tup [V.int (i:Int),V.ref g]):=af;generalize aD H3 T (.tup [V.int (i:Int),V.ref g])=H4 at k eT ⊢;have rr:=(B.2 i g r Z p).up k;obtain⟨dx,pl,o,_⟩:=id rr;ext;refine⟨_,cR.of eT,rfl,_,_,rfl,_,_,rfl,rfl,?_⟩;refine⟨_,(rk.icls r.1).ty o,_,rk4.kit r.1 0 C b⁻¹,?_⟩;have b:(if r.1=0/\Gg (tx sg) (tx r.2.sg)=false then some i else gB (tx sg) (j.drop (i+1)) (i+1))=gB (tx sg) j 0:=hb
   by_cases L:r.1=0
   ·rw[q07 (by simp[L])]
    obtain⟨r0,v⟩:=r;have a3:r0=0:=L;subst a3;refine⟨g,rfl,_,_,_,o,rk.i0.cl,rk.a0.2.2.2,_,rfl,_,rfl,?_⟩;have l:Gg (tx sg) (tx v.sg)=true:=by
     cases l:Gg (tx sg) (tx v.sg) with
     |true=>rfl
     |false=>
      rw[q07 ⟨rfl,l⟩]at b;rw[<- b]at c;cases c
    rw[q06 (by rw[show(!(Builtin.Str.occurrences (tx sg) (tx v.sg) 0 (tx sg).length 1).isEmpty)=true from l];decide)];rw[q06 (λz=>by rw[l]at z;exact q0Q z.2 b⁻¹)]at b;exact⟨k,b⟩
   ·rw[q06 (by simp[L])]
    rw[q06 (λz=>L z.1)]at b;exact⟨k,b⟩
  ·rintro σ O ⟨u,hb,x,y,rfl⟩
   ext;exact good O u
def iR(m:List (Str×List Nat))(z:Str)(i:Nat):List (Str×List Nat):=m.map λq=>if q.1=z then(q.1,q.2++[i]) else q
structure sK(H0:Hp)(p:Addr)(t:NT)(H:Hp):Prop where
 same:az H0 H
 at_:dm H p t
 fresh:∀x∈t,H0 x.2.1=none
 nodup:((i7 t).map (·.1)).Nodup
theorem pf(t:NT):(i7 t).length=t.length:=by unfold i7;rw[KO]
theorem qH(m:List (Str×List Nat))(z:Str):(cr m z).length<=m.length+1:=by
 unfold cr;split
 ·omega
 ·rw[La];simp
theorem iA(m:List (Str×List Nat))(z:Str)(i:Nat):(iR m z i).map (·.1)=m.map (·.1):=by
 unfold iR;rw[K4]
 apply q0K;intro q _;simp only[Function.comp]
 split<;>rfl
theorem zc{m:List (Str×List Nat)}{j i:Nat}{q:Str×List Nat}(nd:(m.map (·.1)).Nodup)(hj:m[j]?=some q):m.set j (q.1,q.2++[i])=iR m q.1 i:=by
 unfold iR;apply List.ext_getElem?;intro k;rw[KQ,List.getElem?_set];have b:j<m.length:=(KM.mp hj).1
 by_cases e:j=k
 ·subst e
  rw[q07 rfl,q07 b,hj];simp
 ·rw[q06 e]
  cases c:m[k]? with
  |none=>rfl
  |some y=>
   have a:y.1≠q.1:=by
    intro h;have h1:(m.map (·.1))[j]?=some q.1:=by rw[KQ,hj];rfl
    have h2:(m.map (·.1))[k]?=some q.1:=by rw[KQ,c];simp[h]
    exact e ((List.getElem?_inj (KM.mp h1).1 nd).mp (h1.trans h2.symm))
   simp[a]
theorem sK.free{H0:Hp}{t:NT}(N:sK H0 p t H){l:Addr}(h:H l=none):H0 l=none:=N.same.free h
theorem nk{te:TE}{σ:St}{H0 H:Hp}{t:NT}{i:Nat}{Q:VK}(hp:H0 p=none)(hv:σ[i]?=some (some (.ref p)))(hte:∀R:VK,R (.str z) H->te σ H R)(N:sK H0 p t H)(hn:t.length<sizeLine)
  (h:∀(H':Hp) (t':NT) (j:Nat) (x:Str×Addr×List Nat),sK H0 p t' H'->t'[j]?=some x->x.1=z->i7 t'=cr (i7 t) z->t'.length<=t.length+1->(∀a o,a≠p->H a=some o->H' a=some o)->Q (.ref x.2.1) H'):uW (CF i) te (D7 oN) σ H Q:=by
 refine⟨.ref p,hv,p,rfl,.inl ⟨_,.inl N.at_.dict⟩,hte _ ⟨Lc _,λl m=>?_⟩⟩;have k:=N.free m;refine N.at_.setdef m hn λH' t' j x w v u g r n=>h H' t' j x ⟨λb o e=>n b o (λq=>by rw[q,hp]at e;exact nomatch e) (N.same b o e),w,λy c=>?_,?_⟩ v u g ?_ n
 ·rcases r y c with q | q
  ·exact N.fresh y q
  ·rw[q];exact k
 ·rw[g];exact lT N.nodup
 ·have:=qH (i7 t) z
  rw[<- g,pf,pf]at this;exact this
theorem sK.put{H0:Hp}{t:NT}{j k:Nat}{x:Str×Addr×List Nat}(N:sK H0 p t H)(hj:t[j]?=some x) :
  sK H0 p (t.set j (x.1,x.2.1,x.2.2++[k])) (aD H x.2.1 (.lst (wj (x.2.2++[k]))))/\i7 (t.set j (x.1,x.2.1,x.2.2++[k]))=iR (i7 t) x.1 k:=by
 have a:=KR hj;have e:i7 (t.set j (x.1,x.2.1,x.2.2++[k]))=iR (i7 t) x.1 k:=by
  rw[Du];exact zc (q:=(x.1,x.2.2)) N.nodup (by unfold i7;rw[KQ,hj];rfl)
 refine⟨⟨bE N.same (N.fresh x a),N.at_.put hj,λy b=>?_,?_⟩,e⟩
 ·rcases List.mem_or_eq_of_mem_set b with q | q
  ·exact N.fresh y q
  ·rw[q];exact N.fresh x a
 ·rw[e,iA];exact N.nodup
abbrev dY:Stmt:=fY 49
theorem kR:aG ["start","rules","numbers","k","rule","part"] ["start","rules"] (aq dY):=by walk_at "c"
def eN(m:List (Str×List Nat))(i:Nat)(r:Nat×RV):List (Str×List Nat):=((bT r.1 r.2).map tx).foldl cr (iR (cr m (tx r.2.n)) (tx r.2.n) i)
def fX:Nat->Yaa->List (Str×List Nat)->List (Str×List Nat)
 |_,[],m=>m
 |i,r::rs,m=>fX (i+1) rs (eN m i r)
theorem kM{m:List (Str×List Nat)}{z:Str}{n:Nat}(h:∀q∈m,q.2.length<=n):∀q∈cr m z,q.2.length<=n:=by
 unfold cr;split
 ·exact h
 ·intro q a
  rcases K3.mp a with z1 | z1
  ·exact h q z1
  ·rw[KP.mp z1];exact Lc _
theorem nq:∀{zs:LW} {m:List (Str×List Nat)} {n:Nat},(∀q∈m,q.2.length<=n)->∀q∈zs.foldl cr m,q.2.length<=n
 | [],_,_,h=>h
 |z::zs,_,_,h=>nq (zs:=zs) (kM h)
theorem vE{m:List (Str×List Nat)}{i n:Nat}{r:Nat×RV}(h:∀q∈m,q.2.length<=n):∀q∈eN m i r,q.2.length<=n+1:=by
 unfold eN;refine nq λq b=>?_;unfold iR at b;obtain⟨c,a,rfl⟩:=Lx.mp b;have:=kM h c a
 split
 ·rw[La];simp;exact this
 ·omega
theorem oQ:∀{rs:Yaa} {i n:Nat} {m:List (Str×List Nat)},(∀q∈m,q.2.length<=n)->∀q∈fX i rs m,q.2.length<=n+rs.length
 | [],_,_,_,h=>h
 |r::rs,i,n,m,h=>λq hq=>by
  have:=oQ (rs:=rs) (i:=i+1) (vE (i:=i) (r:=r) h) q hq;rw[K1];omega
theorem gg:∀{rs:Yaa} {i:Nat} {m:List (Str×List Nat)} {r:Nat×RV},fX i (rs++[r]) m=eN (fX i rs m) (i+rs.length) r
 | [],i,m,r=>rfl
 |r0::rs,i,m,r=>by
  show fX (i+1) (rs++[r]) (eN m i r0)=eN (fX (i+1) rs (eN m i r0)) (i+(rs.length+1)) r;rw[gg,show i+1+rs.length=i+(rs.length+1) by omega]
theorem oz(k:Nat)(v:RV):(bT k v).length<=2:=by
 match k with
 |0=>simp[bT]
 |1=>simp[bT]
 |2=>simp[bT]
 |_+3=>simp[bT]
def bJ(z:Str)(rs:Yaa):List (Str×List Nat):=fX 0 rs [(z,[])]
inductive fR(K:W.Frag)(R:RC)(vs:List V)(H:Hp)(Q:VK)(_E:XK):Prop
 |mk (z:Str) (a:Addr) (as:LR) (rs:Yaa) (_:vs=[.str z,.ref a]) (_:H a=some (.lst (as.map V.ref))) (_:bO R H as rs) (_:rs.length<=100) (_:∀p H' t,H p=none->dm H' p t->i7 t=bJ z rs->(∀x∈t,H x.2.1=none)->az H H'->Q (.ref p) H')
theorem kj{f:Addr}(F:dG K "numbers_by_name" "numbers_by_name" dY f fd)(nb:NB mg)(rk:ki K R)(yao:↑v3 1 "parts" (kJ K R)):↑bj 2 f fd ["start","rules"] (fR K R):=by
 have sc:=kR;walk_at "f"
 ·obtain⟨z,a,as,rs,rfl,ha,Y,hn,q⟩:=h
  refine⟨_,(ae (q01 2 sc.nd (CV (A3 (pv 0) (bI ad) DH) rfl rfl (by simp) b⁻¹))
   (ae (bF PassesOwn.never rfl (tE rfl nb.enumerate (ac (pv 1) ad)) (ik (n:=2) rfl (aV (q02 3 sc.nd) (aV (q02 4 sc.nd) du)))
   (ae (bi (q03 (oX (pv 2) (cq (pv 4) rfl) (bI ad) ⟨rfl,rfl,rfl,rfl⟩) (ac (pv 3) ad)))
   (ag (bF PassesOwn.never rfl (bR (vj yao (hr.mono b⁻¹) aK (pv 4))) (q02 5 sc.nd)
   (ag (bi (oX (pv 2) (pv 5) (bI ad) ⟨rfl,rfl,rfl,rfl⟩)))))))
   (ag (aM (pv 2))))),?_⟩
  ext;intro p hp;refine⟨Lc _,λl hl=>?_⟩;have B:l≠p:=λe=>by rw[e,af]at hl;exact nomatch hl
  have a1:H l=none:=by rw[ar B]at hl;exact hl
  have a8:a≠p:=λe=>by rw[e,hp]at ha;exact nomatch ha
  have b4:a≠l:=λe=>by rw[e,a1]at ha;exact nomatch ha
  refine⟨by rw[ar (Ne.symm B),af],[(.inr z,.ref l)],rfl,by simp,as.map V.ref,aQ.of (by rw[ar a8,ar b4,ar a8];exact ha),?_⟩;refine qX (xs:=as.map V.ref) (λi σ C=>az H C/\∃t,dm C p t/\(∀x∈t,H x.2.1=none)/\((i7 t).map (·.1)).Nodup/\i7 t=fX 0 (rs.take i) [(z,[])]/\t.length<=1+3*i/\∃x y u,σ=[some (.str z),some (.ref a),some (.ref p),x,y,u]) ?_ ?_ ?_ ?_
  ·refine⟨λb o e=>?_,[(z,l,[])],⟨by rw[af];rfl,λx c=>?_,by simp⟩,λx c=>?_,by simp[i7],rfl,by simp,_,_,_,rfl⟩
   ·have h1:b≠p:=λq=>by rw[q,hp]at e;exact nomatch e
    have h2:b≠l:=λq=>by rw[q,a1]at e;exact nomatch e
    rw[ar h1,ar h2,ar h1];exact e
   ·rw[KP.mp c,ar B,af];rfl
   ·rw[KP.mp c];exact a1
  ·rintro i σ C _ ⟨sm,_⟩
   exact aQ.of (sm _ _ ha)
  ·rintro i x σ H1 T c ⟨sm,t,N,fr,nd,em,hlen,x1,y1,u1,rfl⟩ hT
   have a4:i<rs.length:=by have:=(KM.mp c).1;rw[KO,Y.1]at this;exact this
   obtain⟨g,b1,rfl⟩:∃g,as[i]?=some g/\V.ref g=x:=by
    rw[KQ]at c;cases e:as[i]? with
    |none=>rw[e]at c;cases c
    |some g=>rw[e]at c;exact⟨g,rfl,q0S c⟩
   have Z:rs[i]?=some rs[i]:=KL a4;generalize rs[i]=r at Z;have rr:=Y.2 i g r b1 Z;have O:az H (aD H1 T (.tup [V.int (i:Int),V.ref g])):=sm.trans (aj hT);have gT:∀b o,H1 b=some o->aD H1 T (.tup [V.int (i:Int),V.ref g]) b=some o:=aj hT;have eT:cR K (aD H1 T (.tup [V.int (i:Int),V.ref g])) T [V.int (i:Int),V.ref g]:=cR.of af;have N2:=N.grow gT;generalize aD H1 T (.tup [V.int (i:Int),V.ref g])=H2 at O gT eT N2 ⊢;clear gT N hT sm H1;simp only[AO,yv,j_,C6];refine⟨_,_,rfl,eT,rfl,_,_,rfl,_,_,rfl,rfl,?_⟩;refine am λN1 h1=>?_;have a3:=rr.up O;have NI:sK H p t H2:=⟨O,N2,fr,nd⟩;have hz:sizeLine>1000:=bc b⁻¹;obtain⟨dx,pl,L,_⟩:=id a3;ext;refine nk (z:=tx r.2.n) hp rfl (λS hS=>⟨_,rfl,g,_,dx,_,_,rfl,L,(rk.icls r.1).cl,(rk.name r.1).1,(jE pl r.2 r.1).1,hS⟩) NI ⋯ λH3 t3 j x N3 hj c hm a6 hk=>?_;have U:=N3.at_.list x (KR hj);refine⟨.inl ⟨rfl,_,aQ.of U⟩,_,rfl,_,U,?_,h1 _ _ ?_⟩
   ·have h2:(x.1,x.2.2)∈cr (i7 t) (tx r.2.n):=by rw[<- hm];exact Lx.mpr ⟨x,KR hj,rfl⟩
    have h3:=kM (oQ (rs:=rs.take i) (i:=0) (n:=0) (m:=[(z,[])]) (λq hq=>by rw[KP.mp hq];exact Lc _)) (z:=tx r.2.n) (x.1,x.2.2) (by rw[<- em];exact h2);rw[Lq]at h3;unfold wj;rw[KO];have h4:x.2.2.length<=100:=by simp at h3;omega
    omega
   clear h1;obtain⟨J,D⟩:=N3.put (k:=i) hj;have a5:(t3.set j (x.1,x.2.1,x.2.2++[i])).length<=t.length+1:=by rw[LD];exact a6
   have D:i7 (t3.set j (x.1,x.2.1,x.2.2++[i]))=iR (cr (i7 t) (tx r.2.n)) (tx r.2.n) i:=by rw[D,hm,c]
   have eI:wj (x.2.2++[i])=wj x.2.2++[V.int (i:Int)]:=by unfold wj;rw[K2];rfl
   rw[eI]at J;generalize t3.set j (x.1,x.2.1,x.2.2++[i])=t4 at J D a5;generalize aD H3 x.2.1 (.lst (wj x.2.2++[V.int (i:Int)]))=H4 at J ⊢;clear hk U hj N3 hm a6 c NI N2 L a3;have b0:=rr.up J.same;have hpk:=oz r.1 r.2;ext;refine rD rk b0 λlp H5 B a9 a2=>⟨lp,rfl,⟨_,aQ.of a9⟩,?_⟩;have b2:lp≠p:=λe=>by rw[e,J.at_.dict]at B;exact nomatch B
   refine b5 (xs:=ao (bT r.1 r.2)) (λn σ C=>n<=(bT r.1 r.2).length/\∃M,sK H p M C/\i7 M=(((bT r.1 r.2).take n).map tx).foldl cr (iR (cr (i7 t) (tx r.2.n)) (tx r.2.n) i)/\M.length<=t.length+1+n/\C lp=some (.lst (ao (bT r.1 r.2)))/\∃u,σ=[some (.str z),some (.ref a),some (.ref p),some (.int (i:Int)),some (.ref g),u])
    ⟨Lc _,t4,⟨J.same.trans a2,J.at_.grow a2,J.fresh,J.nodup⟩,D,a5,a9,_,rfl⟩ ?_ ?_ ?_
   ·rintro n σ C _ ⟨_,M,_,_,_,I,_⟩
    exact aQ.of I
   ·rintro n v σ C hv ⟨hn1,M,N',G,a7,I,u,rfl⟩
    have a0:n<(bT r.1 r.2).length:=by have:=(KM.mp hv).1;rwa [ak]at this
    rw[bz a0]at hv;cases hv;ext;refine nk (z:=tx (bT r.1 r.2)[n]) hp rfl (λS hS=>⟨_,rfl,hS⟩) N' ⋯ λH6 t6 j x N6 hj c b3 hl6 hk=>?_;refine⟨a0,t6,N6,?_,⋯,hk _ _ b2 I⟩;rw[b3,G,q0E,KL a0,K2,List.foldl_append]
    rfl
   ·rintro σ C ⟨_,M,N',G,a7,I,u,rfl⟩
    rw[ak,Lp]at G;refine⟨N'.same,M,N'.at_,N'.fresh,N'.nodup,?_,?_,_,_,_,rfl⟩
    ·rw[G,q0E,Z,em]
     show _=fX 0 (rs.take i++[r]) _;rw[gg,Lq,LI (q0P a4),Nat.zero_add]
     rfl
    ·rw[ak]at a7;omega
  ·rintro σ C ⟨sm,t,N,fr,_,em,_,x,y,u,rfl⟩
   ext;refine q p C t hp N ?_ fr sm;rw[em,KO,Y.1,Lp];rfl
def oy(sg st:LO)(rs:Yaa):Option (Str×List Int):=
 match ig sg st rs with
 |some y=>some y
 |none=>if 8<(bJ (tx st) rs).length then some ("names",[((bJ (tx st) rs).length:Int)]) else none
def gN(sg st:LO)(lk pn:Addr):List (Str×V):=[("signs",.str (tx sg)),("start",.str (tx st)),("kept",.ref lk),("numbers",.ref pn)]
def cT(R:RC)(H:Hp)(C dx a:Addr)(sg st:LO)(as:LR)(rs:Yaa):Prop:=
 ∃lk pn t,H a=some (.ins C dx (gN sg st lk pn))/\H lk=some (.lst (as.map V.ref))/\bO R H as rs/\dm H pn t/\i7 t=bJ (tx st) rs
def uI(R:RC)(H:Hp)(C dx a:Addr)(sg st:LO)(as:LR)(rs:Yaa)(lk pn:Addr)(t:NT):Prop:=
 H a=some (.ins C dx (gN sg st lk pn))/\H lk=some (.lst (as.map V.ref))/\bO R H as rs/\dm H pn t/\i7 t=bJ (tx st) rs
theorem uI.f{st:LO}{lk pn:Addr}{t:NT}(g:uI R H C dx a sg st as rs lk pn t):cT R H C dx a sg st as rs:=⟨lk,pn,t,g⟩
theorem cT.up{st:LO}(g:cT R H C dx a sg st as rs)(s:az H H'):cT R H' C dx a sg st as rs:=by
 obtain⟨c,b,t,h1,h2,k,j,e⟩:=g;exact⟨c,b,t,s _ _ h1,s _ _ h2,k.up s,j.grow s,e⟩
theorem Dl(k:Nat)(l:Addr)(v:RV):tM k l v≠[]:=λe=>by
 have:=(jE l v k).1;rw[e]at this;exact nomatch this
theorem bO.upX(h:bO R H as rs)(ha:H a=some (.ins C dx []))(s:bv a H H'):bO R H' as rs:=by
 refine⟨h.1,λi b r g c=>?_⟩;obtain⟨d,l,h1,h2⟩:=h.2 i b r g c;refine⟨d,l,s _ _ (λe=>?_) h1,s _ _ (λe=>?_) h2⟩
 ·rw[e,ha]at h1
  have:=q0S h1;exact q0Q (HO.ins.inj this).2.2.symm (Dl _ _ _)
 ·rw[e,ha]at h2;cases h2
abbrev gy:Stmt:=jp 46 0
inductive iy(K:W.Frag)(R:RC)(vs:List V)(H:Hp)(Q:VK)(_E:XK):Prop
 |mk (a C dx l:Addr) (sg st:LO) (as:LR) (rs:Yaa) (_:vs=[.ref a,.str (tx sg),.str (tx st),.ref l]) (_:H a=some (.ins C dx [])) (_:jA K C) (_:(aC K C "signs"/\aC K C "start"/\aC K C "kept"/\aC K C "numbers")) (_:sg.length<=1000) (_:st.length<=1000) (_:H l=some (.lst (as.map V.ref))) (_:bO R H as rs) (_:(∀r∈rs,r.1<4)) (_:rs.length<=100) (_:oy sg st rs=none) (_:∀H' lk pn t,bv a H H'->uI R H' C dx a sg st as rs lk pn t->H lk=none->H pn=none->(∀x∈t,H x.2.1=none)->Q .non H')
theorem sh:aG ["self","signs","start","rules"] ["self","signs","start","rules"] (aq gy):=by walk_at "c"
theorem uo{f:Addr}{t1:Tok}(F:dG K "__init__" "Grammar.__init__" gy f fd)(nb:NB mg)(yaE:mg "MOST_NAMES"=some (.int 8 t1))
  (yaW:↑dF 3 "check_made_of" ["signs","start","rules"] (gY R)) (yaO:↑dF 2 "numbers_by_name" ["start","rules"] (fR K R)) :
  ↑bj 4 f fd ["self","signs","start","rules"] (iy K R):=by
 have sc:=sh;walk_at "f"
 ·obtain⟨a,C,j,l,b,c,B,L,rfl,ha,cl,⟨n1,n2,n3,n4⟩,a8,a7,hl,M,a9,hn,T,good⟩:=h
  refine⟨_,(ae (bi (q00 yaW hr (ac (al 1) (ac (al 2) (ac (al 3) ad)))))
   (ae (c8 (al 0) (al 1) rfl)
   (ae (c8 (al 0) (al 2) rfl)
   (ae (c8 (al 0) (c5 cy rfl nb.list eU (ac (al 3) ad)) rfl)
   (ae (c8 (al 0) (q00 yaO hr (ac (al 2) (ac (al 3) ad))) rfl)
   (ag (bL (aN (bC.m0 lK) (aE Aa rfl nb.len ba (ac (cq (al 0) rfl) ad)) (cW (v:=.int 8) rfl yaE ⟨_,rfl⟩) (aR _))
   (ag dU)
   aW))))))),?_⟩
  obtain⟨g0,h8⟩:ig b c L=none/\¬ 8<(bJ (tx c) L).length:=by
   unfold oy at T;cases e:ig b c L with
   |some y=>rw[e]at T;cases T
   |none=>
    rw[e]at T;exact⟨rfl,λh=>by simp only[]at T;rw[q07 h]at T;cases T⟩
  symm;refine⟨b,c,l,B,L,rfl,a8,a7,hl,M,a9,hn,g0,λH1 J=>h1 _ _ ?_⟩;clear h1;have a3:=J _ _ ha;have a1:l≠a:=λe=>by rw[e,ha]at hl;cases hl
  ac_nf;refine⟨C,j,_,a3,cl,n1,by simp,h2 _ _ ?_⟩;clear h2;have G:bv a H (aD H1 a (.ins C j [("signs",.str (tx b))])):=(bv.of J).put;have Z:aD H1 a (.ins C j [("signs",.str (tx b))]) a=some (.ins C j [("signs",.str (tx b))]):=af;show _;change Ap _ _ _ _ (aD H1 a (.ins C j [("signs",.str (tx b))]));generalize aD H1 a (.ins C j [("signs",.str (tx b))])=H2 at G Z ⊢;clear J a3;refine am λN3 h3=>?_;ext;have d1:¬ (("signs":Str)="start"):=by decide +kernel
  have e3:cM "start" (V.str (tx c)) [(("signs":Str),V.str (tx b))]=[(("signs":Str),V.str (tx b)),(("start":Str),V.str (tx c))]:=by simp only[cM,q06 d1]
  refine⟨C,j,_,Z,cl,n2,by simp,?_⟩;rw[e3];refine h3 _ _ ?_;clear h3;have p:bv a H (aD H2 a (.ins C j [(("signs":Str),V.str (tx b)),(("start":Str),V.str (tx c))])):=G.put;have Y:aD H2 a (.ins C j [(("signs":Str),V.str (tx b)),(("start":Str),V.str (tx c))]) a=some (.ins C j [(("signs":Str),V.str (tx b)),(("start":Str),V.str (tx c))]):=af;generalize aD H2 a (.ins C j [(("signs":Str),V.str (tx b)),(("start":Str),V.str (tx c))])=H3 at p Y ⊢;clear G Z;have a2:=p _ _ a1 hl;refine am λN4 h4=>?_;ext;refine⟨_,.inl (aQ.of a2),λg m=>?_⟩;have S:g≠a:=λe=>by rw[e,Y]at m;cases m
  have hlk0:g≠l:=λe=>by rw[e,a2]at m;cases m
  have sk:az H3 (aD H3 g (.lst (B.map V.ref))):=aj m;have ek:aD H3 g (.lst (B.map V.ref)) g=some (.lst (B.map V.ref)):=af;have b3:H g=none:=by
   cases e:H g with
   |none=>rfl
   |some u=>rw[p _ _ S e]at m;cases m
  generalize aD H3 g (.lst (B.map V.ref))=H4 at sk ek ⊢;have d2:¬ (("signs":Str)="kept"):=by decide +kernel
  have d3:¬ (("start":Str)="kept"):=by decide +kernel
  have e4:cM "kept" (V.ref g) [(("signs":Str),V.str (tx b)),(("start":Str),V.str (tx c))]=[(("signs":Str),V.str (tx b)),(("start":Str),V.str (tx c)),(("kept":Str),V.ref g)]:=by simp only[cM,q06 d2,q06 d3]
  refine⟨C,j,_,sk _ _ Y,cl,n3,by simp,?_⟩;rw[e4];refine h4 _ _ ?_;clear h4;have n:bv a H (aD H4 a (.ins C j [(("signs":Str),V.str (tx b)),(("start":Str),V.str (tx c)),(("kept":Str),V.ref g)])):=(p.then sk).put;have r:aD H4 a (.ins C j [(("signs":Str),V.str (tx b)),(("start":Str),V.str (tx c)),(("kept":Str),V.ref g)]) a=some (.ins C j [(("signs":Str),V.str (tx b)),(("start":Str),V.str (tx c)),(("kept":Str),V.ref g)]):=af;have U:aD H4 a (.ins C j [(("signs":Str),V.str (tx b)),(("start":Str),V.str (tx c)),(("kept":Str),V.ref g)]) g=some (.lst (B.map V.ref)):=by rw[ar S];exact ek
  generalize aD H4 a (.ins C j [(("signs":Str),V.str (tx b)),(("start":Str),V.str (tx c)),(("kept":Str),V.ref g)])=H5 at n r U ⊢;refine am λN5 h5=>?_;ext;refine⟨tx c,l,B,L,rfl,n _ _ a1 hl,M.upX ha n,hn,λk H6 t o hN hm b0 I=>?_⟩;have O:k≠a:=λe=>by rw[e,r]at o;cases o
  have hpk:k≠g:=λe=>by rw[e,U]at o;cases o
  have b2:H k=none:=by
   cases e:H k with
   |none=>rfl
   |some u=>rw[n _ _ O e]at o;cases o
  have b1:∀x∈t,H x.2.1=none:=λx hx=>by
   have q:=b0 x hx;cases e:H x.2.1 with
   |none=>rfl
   |some u=>rw[n _ _ (λz=>by rw[z,r]at q;cases q) e]at q;cases q
  have d4:¬ (("signs":Str)="numbers"):=by decide +kernel
  have d5:¬ (("start":Str)="numbers"):=by decide +kernel
  have d6:¬ (("kept":Str)="numbers"):=by decide +kernel
  have e6:cM "numbers" (V.ref k) [(("signs":Str),V.str (tx b)),(("start":Str),V.str (tx c)),(("kept":Str),V.ref g)]=gN b c g k:=by unfold gN;simp only[cM,q06 d4,q06 d5,q06 d6]
  have a6:=I _ _ r;refine⟨C,j,_,a6,cl,n4,by simp,?_⟩;rw[e6];refine h5 _ _ ?_;clear h5;have D:bv a H (aD H6 a (.ins C j (gN b c g k))):=(n.then I).put;have gf:uI R (aD H6 a (.ins C j (gN b c g k))) C j a b c B L g k t:=by
   refine⟨af,by rw[ar S];exact I _ _ U,M.upX ha D,⟨by rw[ar O];exact hN.dict,λx hx=>?_,hN.apart⟩,hm⟩;have hq:=hN.list x hx;rw[ar (λe=>by rw[e,a6]at hq;cases hq)];exact hq
  have a5:aD H6 a (.ins C j (gN b c g k)) a=some (.ins C j (gN b c g k)):=af;have a4:aD H6 a (.ins C j (gN b c g k)) k=some (.dK (wc t)):=by rw[ar O];exact hN.dict
  generalize aD H6 a (.ins C j (gN b c g k))=H7 at D gf a5 a4 ⊢;have a0:(wc t).length=(bJ (tx c) L).length:=by rw[<- hm];unfold wc i7;rw[KO,KO]
  ext;refine⟨C,j,_,a5,cl,n4,_,rfl,k,rfl,_,a4,?_⟩;rw[a0];rw[q06 ⋯];exact good H7 g k t D gf b3 b2 b1
abbrev gw:Stmt:=jp 46 2
inductive dR(R:RC)(C:Addr)(vs:List V)(H:Hp)(Q:VK)(_E:XK):Prop
 |mk (a dx:Addr) (sg st:LO) (as:LR) (rs:Yaa) (k:Nat) (b:Addr) (_:vs=[.ref a,.int (k:Int)]) (_:cT R H C dx a sg st as rs) (_:as[k]?=some b) (_:Q (.ref b) H)
theorem sj:aG ["self","k"] ["self","k"] (aq gw):=by walk_at "c"
theorem sW{f:Addr}(F:dG K "rule" "Grammar.rule" gw f fd)(nb:NB mg)(cl:jA K C)(na:aC K C "signs"/\aC K C "start"/\aC K C "kept"/\aC K C "numbers"):↑bj 1 f fd ["self","k"] (dR R C):=by
 have sc:=sj;walk_at "f"
 ·obtain⟨a,m,sg,st,as,rs,k,b,rfl,g,j,q⟩:=h
  obtain⟨c,pn,t,l,e,hrs,hN,hm⟩:=id g;have hu:=hr.units;refine⟨_,(ag (aM (aP aX (cq (al 0) rfl) (al 1) (λ_ _=>rfl)))),?_⟩;ext;exact⟨C,m,_,l,cl,na.2.2.1,_,rfl,c,rfl,_,aQ.of e,_,bo (by rw[KQ,j];rfl),q⟩
theorem q8(z:Str):∀t:NT,(i7 t).lookup z=(t.find? λx=>decide (x.1=z)).map (·.2.2)
 | []=>rfl
 |x::t=>by
  have ih:=q8 z t;unfold i7 at ih ⊢;rw[Lh,List.lookup_cons,List.find?_cons]
  by_cases e:x.1=z
  ·simp[e]
  ·have e':(z==x.1)=false:=by simpa using λh=>e h.symm
   rw[e',ih];simp[e]
abbrev df:Stmt:=jp 46 5
inductive cZ(R:RC)(C:Addr)(vs:List V)(H:Hp)(Q:VK)(_E:XK):Prop
 |mk (a dx:Addr) (sg st:LO) (as:LR) (rs:Yaa) (z:Str) (_:vs=[.ref a,.str z]) (_:cT R H C dx a sg st as rs) (ns:_) (_:(bJ (tx st) rs).lookup z=some ns) (_:∀l H',H l=none->H' l=some (.lst (wj ns))->az H H'->Q (.ref l) H')
theorem kx:aG ["self","name"] ["self","name"] (aq df):=by walk_at "c"
theorem kt{f:Addr}(F:dG K "numbers_of" "Grammar.numbers_of" df f fd)(nb:NB mg)(cl:jA K C)(na:aC K C "signs"/\aC K C "start"/\aC K C "kept"/\aC K C "numbers"):↑bj 1 f fd ["self","name"] (cZ R C):=by
 have sc:=kx;walk_at "f"
 ·obtain⟨a,p,sg,st,as,rs,z,rfl,g,ns0,c,q⟩:=h
  obtain⟨lk,k,t,o,hk,hrs,j,u⟩:=id g;have m:=hr.units;refine⟨_,(ae (bL (mD (jG (Lv (LA (by decide:1<=64) _) m) (al 1) (cq (al 0) rfl)) (by with_unfolding_all rfl))
   (ag dU)
   aW)
   (ag (aM (c5 cy rfl nb.list eU (ac (lD (Lv (LA (by decide:1<=64) _) m) (cq (al 0) rfl) (al 1) (λ_ _=>rfl)) ad))))),?_⟩
  ext;have b:=q8 z t;have val:=wE z t;rw[u]at b;refine⟨C,p,_,o,cl,na.2.2.2,_,rfl,k,rfl,?_⟩;refine⟨_,.inl ⟨_,.inr z,.inl j.dict,rfl,rfl⟩,?_⟩;cases e:t.find? (λx=>decide (x.1=z)) with
  |none=>
   rw[e]at b val;rw[val];rw[q07 (by simp)];rw[c]at b;cases b
  |some y=>
   rw[e]at b val;rw[val];rw[q06 (by simp)];have r:=j.list y (List.mem_of_find?_eq_some e);exact⟨C,p,_,o,cl,na.2.2.2,_,rfl,k,rfl,_,.inl ⟨_,.inr z,.inl j.dict,rfl,val.symm⟩,_,rfl,_,.inl (aQ.of r),λl n=>q l _ n (by rw[af];rw[c]at b;cases b;rfl) (aj n)⟩
abbrev fo:Stmt:=jp 46 4
inductive gI(R:RC)(C:Addr)(vs:List V)(H:Hp)(Q:VK)(_E:XK):Prop
 |mk (a dx:Addr) (sg st:LO) (as:LR) (rs:Yaa) (_:vs=[.ref a]) (_:cT R H C dx a sg st as rs) (_:∀l H',H l=none->H' l=some (.lst ((bJ (tx st) rs).map λq=>V.str q.1))->az H H'->Q (.ref l) H')
theorem qt:aG ["self"] ["self"] (aq fo):=by walk_at "c"
theorem qG{f:Addr}(F:dG K "names" "Grammar.names" fo f fd)(nb:NB mg)(cl:jA K C)(na:aC K C "signs"/\aC K C "start"/\aC K C "kept"/\aC K C "numbers"):↑bj 1 f fd ["self"] (gI R C):=by
 have sc:=qt;walk_at "f"
 ·obtain⟨a,m,sg,st,as,rs,rfl,g,q⟩:=h
  obtain⟨lk,c,t,j,hk,hrs,k,e⟩:=id g;have hu:=hr.units;refine⟨_,(ag (aM (c5 (w8 rfl) rfl nb.list eU (ac (cq (al 0) rfl) ad)))),?_⟩;ext;refine⟨C,m,_,j,cl,na.2.2.2,_,rfl,c,rfl,_,k.dict,λl b=>q l _ b ?_ (aj b)⟩;rw[af,<- e];unfold wc i7;rw[K4,K4]
  rfl
abbrev fE:Stmt:=jp 46 1
inductive gL(R:RC)(C:Addr)(vs:List V)(H:Hp)(Q:VK)(_E:XK):Prop
 |mk (a dx:Addr) (sg st:LO) (as:LR) (rs:Yaa) (_:vs=[.ref a]) (_:cT R H C dx a sg st as rs) (_:∀l H',H l=none->H' l=some (.lst (as.map V.ref))->az H H'->Q (.ref l) H')
theorem qm:aG ["self"] ["self"] (aq fE):=by walk_at "c"
theorem qw{f:Addr}(F:dG K "rules" "Grammar.rules" fE f fd)(nb:NB mg)(cl:jA K C)(na:aC K C "signs"/\aC K C "start"/\aC K C "kept"/\aC K C "numbers"):↑bj 1 f fd ["self"] (gL R C):=by
 have sc:=qm;walk_at "f"
 ·obtain⟨a,l,sg,st,as,rs,rfl,g,q⟩:=h
  obtain⟨c,pn,t,k,j,hrs,hN,hm⟩:=id g;have hu:=hr.units;refine⟨_,(ag (aM (c5 cy rfl nb.list eU (ac (cq (al 0) rfl) ad)))),?_⟩;ext;exact⟨C,l,_,k,cl,na.2.2.1,_,rfl,c,rfl,_,.inl (aQ.of j),λe b=>q e _ b af (aj b)⟩
abbrev oV:Stmt:=fY 19
inductive rQ(K:W.Frag)(vs:List V)(H:Hp)(Q:VK)(_E:XK):Prop
 |mk (a:Addr) (p:aL) (_:vs=[.ref a]) (_:aQ K H a (ao p)) (_:eZ p) (_:fO H (mirror p) Q)
theorem ze:aG ["picture"] ["picture"] (aq oV):=by walk_at "c"
theorem Ai{f:Addr}(F:dG K "mirror" "mirror" oV f fd)(nb:NB mg):↑bj 1 f fd ["picture"] (rQ K):=by
 have sc:=ze;walk_at "f"
 ·obtain⟨a,p,rfl,k,j,q⟩:=h
  refine⟨_,(ag (aM (cH ["row"] [] rfl (bY.of f⁻¹) f⁻¹ (bR (al 0))
    (λ_ _ _ _=>(ay (i:=0) (by show(["row"]:List Str).Nodup;decide +kernel) rfl (Or.inl rfl))) (λ_ _ _ _=>cJ) (λ_ _ _ _=>(pQ rfl rfl nb.reversed (ac (al 0) ad)))))),?_⟩
  ext;refine⟨⟨_,k⟩,eC (xs:=ao p) (λi b σ e=>e=H/\b=ao (mirror (p.take i))/\i<=p.length/\∃x,σ=[x]) ⟨rfl,rfl,Lc _,_,rfl⟩ ?_ ?_ ?_ ?_ ?_⟩
  ·rintro i b σ e ⟨_,rfl,_⟩
   refine bc ?_;rw[ak];unfold mirror;rw[KO,Lq];have:=j.1;omega
  ·rintro i b σ e ⟨_,_,h,_⟩
   rw[ak];exact h
  ·rintro i b σ e ⟨rfl,_⟩
   exact k
  ·rintro i x b σ e g ⟨rfl,rfl,hi,y,rfl⟩
   have c:i<p.length:=by have:=(KM.mp g).1;rwa [ak]at this
   rw[bz c]at g;cases g;have hr:=j.2 _ (KY c);ext;refine⟨by rw[ax];omega,by decide,?_,c⟩;rw[dh,jO,q0E,KL c];unfold mirror;rw[K2];exact(cU _ _).symm
  ·rintro b σ e ⟨rfl,rfl,_⟩ l c
   rw[ak,Lp];exact q l _ c af (aj c)
abbrev dA:Stmt:=fY 21
inductive qZ(K:W.Frag)(vs:List V)(H:Hp)(Q:VK)(_E:XK):Prop
 |mk (a:Addr) (p:aL) (i:Nat) (_:vs=[.ref a,.int (i:Int)]) (_:aQ K H a (ao p)) (_:eZ p) (_:(∀r∈p,i<r.length)) (_:∀H',az H H'->Q (.str (tx (tV p i))) H')
theorem zQ:aG ["picture","i"] ["picture","i"] (aq dA):=by walk_at "c"
theorem zY{f:Addr}(F:dG K "column_from_below" "column_from_below" dA f fd)(nb:NB mg):↑bj 1 f fd ["picture","i"] (qZ K):=by
 have sc:=zQ;walk_at "f"
 ·obtain⟨a,p,i,rfl,z,o,B,q⟩:=h
  refine⟨_,(ag (aM (@yA _ _ _ _ _ _ _ _ (ac (cH ["row"] [1] rfl (bY.of f⁻¹) f⁻¹ (uD rfl nb.reversed (ac (al 0) ad))
    (λ_ _ _ _=>(ay (i:=0) (by show(["row","i"]:List Str).Nodup;decide +kernel) rfl (Or.inl rfl))) (λ_ _ _ _=>cJ) (λ_ _ _ _=>(aP o9 (al 0) (al 1) (λ_ _=>rfl)))) ad) rfl rfl))),?_⟩
  ext;have hd:∀n,((p.reverse.take n).map λr=>V.str ⟨#[r.getD i 0]⟩)=(((p.reverse.take n).map λr=>r.getD i 0).map λc=>(⟨#[c]⟩:Str)).map V.str:=λn=>by rw[K4,K4];rfl
  refine⟨rfl,_,z,v5 (xs:=ao p) (λn b σ j=>j=H/\b=((p.reverse.take n).map λr=>V.str ⟨#[r.getD i 0]⟩)/\n<=p.length/\∃x,σ=[x,some (.int (i:Int))]) ⟨rfl,rfl,Lc _,_,rfl⟩ ?_ ?_ ?_ ?_ ?_⟩
  ·rintro n b σ j ⟨_,rfl,_⟩
   refine bc ?_;rw[KO,Lq];have:=o.1;rw[K7];omega
  ·rintro n b σ j ⟨_,_,h,_⟩
   rw[ak];exact h
  ·rintro n b σ j ⟨rfl,_⟩
   exact z
  ·rintro n x b σ j u ⟨rfl,rfl,hn,y,rfl⟩
   have g:n<p.reverse.length:=by
    have:=(KM.mp u).1
    rwa [K7,ak,<- K7 (as:=p)]at this
   have k:(ao p.reverse)[n]?=some x:=by unfold ao at u ⊢;rwa [List.map_reverse]
   rw[bz g]at k;cases k;have v:p.reverse[n]∈p:=List.mem_reverse.mp (KY g);have hr:=o.2 _ v;have m:=B _ v;ext;have C:(tx p.reverse[n]).cps.toList[i]?=some (p.reverse[n].getD i 0):=by rw[dh,q0A,KL m];rfl
   refine⟨by rw[ax];exact au ⋯,_,bo C,?_,by rw[K7]at g;exact g⟩;rw[q0E,KL g,K2]
   rfl
  ·rintro b σ j ⟨rfl,rfl,_⟩ l g
   rw[ak,<- K7 (as:=p),Lp]at *;refine⟨(tV p i).map λc=>(⟨#[c]⟩:Str),.inl (aQ.of ?_),?_,?_⟩
   ·rw[af];unfold tV;rw[K4,K4];rfl
   ·rw[K4]
    have e:((λy:Str=>y.length)∘λc=>(⟨#[c]⟩:Str))=λ_=>1:=by funext c;rfl
    rw[e,List.map_const',List.sum_replicate_nat,KO];have D:(Str.ofString "").length=0:=rfl;rw[D];have:=o.1;unfold tV;rw[KO,K7];omega
   ·rw[jO];exact q _ (aj g)
abbrev mE:Stmt:=fY 20
inductive iB(K:W.Frag)(vs:List V)(H:Hp)(Q:VK)(_E:XK):Prop
 |mk (a:Addr) (p:aL) (r c:Nat) (_:vs=[.ref a]) (_:aQ K H a (ao p)) (_:rect p r c) (_:0<r) (_:r<=64) (_:c<=64) (_:fO H (bd p) Q)
theorem wX:aG ["picture"] ["picture"] (aq mE):=by walk_at "c"
theorem wR{f:Addr}(F:dG K "quarter" "quarter" mE f fd)(nb:NB mg)(yaS:↑dF 1 "column_from_below" ["picture","i"] (qZ K)):↑bj 2 f fd ["picture"] (iB K):=by
 have sc:=wX;walk_at "f"
 ·obtain⟨a,p,r,c,rfl,D,j,g,u,v,q⟩:=h
  refine⟨_,(ag (aM (cH ["i"] [0] rfl (bY.of f⁻¹) f⁻¹ (cD rfl nb.range (ac (aE bw rfl nb.len ba (ac (aP aX (al 0) ai (λ_ _=>rfl)) ad)) ad))
    (λ_ _ _ _=>(ay (i:=0) (by show(["i","picture"]:List Str).Nodup;decide +kernel) rfl (Or.inl rfl))) (λ_ _ _ _=>cJ) (λ_ _ _ _=>(q00 yaS hr (ac (al 1) (ac (al 0) ad))))))),?_⟩
  ext;have k:0<p.length:=by rw[j.1];exact g
  have z:(p[0]).length=c:=j.2 _ (KY k);have I:(p.headD []).length=c:=aO j g;refine⟨_,D,_,bo (bz k),_,rfl,by rw[ax];exact au ⋯,by rw[ax];omega,by rw[ax];omega,?_⟩;rw[ax,z,KZ];refine pR (lo:=0) (n:=c) (λi b σ m=>az H m/\b=ao ((List.range i).map (tV p))/\i<=c/\∃x,σ=[x,some (.ref a)]) ⟨az.refl _,rfl,Lc _,_,rfl⟩ ?_ ?_ ?_ ?_
  ·rintro i b σ m ⟨_,rfl,_⟩
   refine bc ?_;rw[ak,KO,q0J];omega
  ·rintro i b σ m ⟨_,_,h,_⟩
   exact h
  ·rintro i b σ m C ⟨e,rfl,_,y,rfl⟩
   ext;refine⟨a,p,i,by simp,e.seq D,eZ.of j u v,λx G=>by rw[j.2 x G];exact C,λH2 o=>⟨e.trans o,?_,C⟩⟩;rw[q0M,K2];exact(cU _ _).symm
  ·rintro b σ m ⟨e,rfl,_⟩ l B
   refine q l _ (e.free B) ?_ (e.trans (aj B));rw[af];unfold bd;rw[I]
abbrev pG:Stmt:=fY 18
inductive jK(K:W.Frag)(vs:List V)(H:Hp)(Q:VK)(_E:XK):Prop
 |mk (a:Addr) (p:aL) (r c t:Nat) (_:vs=[.ref a,.int (t:Int)]) (_:aQ K H a (ao p)) (_:rect p r c) (_:0<r) (_:0<c) (_:r<=64) (_:c<=64) (_:t<8) (_:fO H (turned p t) Q)
theorem zX:aG ["picture","t","result","step"] ["picture","t"] (aq pG):=by walk_at "c"
theorem zm{f:Addr}(F:dG K "turned" "turned" pG f fd)(nb:NB mg)(yaZ:↑dF 1 "mirror" ["picture"] (rQ K))(yaX:↑dF 2 "quarter" ["picture"] (iB K)):↑bj 3 f fd ["picture","t"] (jK K):=by
 have sc:=zX;walk_at "f"
 ·obtain⟨a,p,r,c,t,rfl,hS,hp,hr0,hc0,hr1,hc1,ht,q⟩:=h
  refine⟨_,(ae (q01 2 sc.nd (c5 cy rfl nb.list eU (ac (pv 0) ad)))
   (ae (bL (aN EA (pv 1) ai (aR _))
   (ag (q01 2 sc.nd (q00 yaZ hr (ac (pv 2) ad))))
   aW)
   (ae (bF PassesOwn.never rfl (cD rfl nb.range (ac (aw bf (pv 1) ai) ad)) (q02 3 sc.nd)
   (ag (q01 2 sc.nd (q00 yaX hr (ac (pv 2) ad)))))
   (ag (aM (pv 2)))))),?_⟩
  ext
  -- the aS,from the list at l
  have loop:∀(l:Addr) (p':aL) (H1:Hp),H l=none->H1 l=some (.lst (ao p'))->az H H1->rect p' r c->turned p t=aS (t%4) p' ->
    ∀(g:TG) (tb:TS) (D:gO),g=j_ 3->tb=za (kZ (iB K) [] E0 (ke (CF 2) oN)) (j_ 2)->(∀σ' H' v,σ'[2]?=some (some v)->Q v H'->D.nx σ' H')->Aj (zq 0 ((t:Int)%4).toNat) g tb D [some (V.ref a),some (V.int t),some (V.ref l),none] H1:=by
   intro l p' H1 hl h1 sm hp' et g tb D hg htb hD;subst hg htb;have e4:((t:Int)%4).toNat=t%4:=by omega
   rw[e4];refine cL (λi σ H2=>∃(l2:Addr) (x:Option V),σ=[some (V.ref a),some (V.int t),some (V.ref l2),x]/\H l2=none/\H2 l2=some (.lst (ao (aS i p')))/\az H H2) ⟨l,none,rfl,hl,h1,sm⟩ ?_ ?_
   ·rintro i σ H2 hi ⟨l2,x,rfl,h2,h3,sm2⟩
    ext;have hq:=cK i hp' hr0 hc0;have gp:∀r' c',rect (aS i p') r' c'->0<r'->r'<=64->c'<=64->iB K [V.ref l2] H2 (λx_1 H1=>∃l2,x_1=V.ref l2/\H l2=none/\H1 l2=some (HO.lst (ao (aS (i+1) p')))/\az H H1) E0:=λr' c' h4 h5 h6 h7=>
     ⟨l2,aS i p',r',c',rfl,aQ.of h3,h4,h5,h6,h7,λl3 H3 h8 h9 sm3=>⟨l3,rfl,sm2.free h8,by rw[h9,<- cv 1 i p'];rfl,sm2.trans sm3⟩⟩
    by_cases lU:i%2=0
    ·rw[q07 lU,q07 lU]at hq
     exact gp r c hq hr0 hr1 hc1
    ·rw[q06 lU,q06 lU]at hq
     exact gp c r hq hc0 hc1 hr1
   ·rintro σ H2 ⟨l2,x,rfl,h2,h3,sm2⟩
    exact hD _ _ _ rfl (q l2 H2 h2 (by rw[h3,et]) sm2)
  refine⟨_,.inl hS,λl hl=>?_⟩
  split
  ·rename_i h4
   refine⟨l,p,rfl,aQ.of af,eZ.of hp hr1 hc1,λl2 H2 h2 h3 sm2=>⟨⋯,⋯,?_⟩⟩;refine loop l2 (mirror p) H2 ((aj hl).free h2) h3 ((aj hl).trans sm2) (bZ hp) (by unfold turned;rw[q07 ⋯]) _ _ _ rfl rfl ?_;intro σ' H' v e hq;exact⟨v,e,hq⟩
  ·rename_i h4
   refine⟨⋯,⋯,?_⟩;refine loop l p _ hl af (aj hl) hp (by unfold turned;rw[q06 ⋯]) _ _ _ rfl rfl ?_;intro σ' H' v e hq;exact⟨v,e,hq⟩
def qi(r:Nat×RV):List V:=match r.1 with
 |0=>[.int 0,.str (tx r.2.n),.int r.2.c,.str (tx r.2.sg),.str ""]
 |1=>[.int 1,.str (tx r.2.n),.int r.2.c,.str (tx r.2.o1),.str (tx r.2.o2)]
 |2=>[.int 2,.str (tx r.2.n),.int r.2.c,.str (tx r.2.o1),.str (tx r.2.o2)]
 |_=>[.int 3,.str (tx r.2.n),.int r.2.c,.str (tx r.2.o1),.int r.2.t]
def c7(H:Hp)(l:Addr)(ts:LR)(rs:Yaa):Prop:=H l=some (.lst (ts.map V.ref))/\ts.length=rs.length/\∀(i:Nat) t r,ts[i]?=some t->rs[i]?=some r->H t=some (.tup (qi r))
theorem c7.up(h:c7 H l ts rs)(s:az H H'):c7 H' l ts rs:=⟨s _ _ h.1,h.2.1,λi t r e1 e2=>s _ _ (h.2.2 i t r e1 e2)⟩
theorem eM{k:Nat}(h:k<4):k=0\/k=1\/k=2\/k=3:=by omega
structure rO(r:Nat×RV):Prop where
 k4:r.1<4
 good:r.2.good
 small:r.2.small
structure jo(p:aL)(sg:LO)(r:Nat×RV):Prop where
 good:rO r
 n:r.2.n∈p
 o1:r.2.o1∈p
 o2:r.2.o2∈p
 sg:∃c∈sg,r.2.sg=[c]
theorem c7.app{t:Addr}(h:c7 H l ts rs)(ht:H t=some (.tup (qi r))):c7 (aD H l (.lst (ts.map V.ref++[V.ref t]))) l (ts++[t]) (rs++[r]):=by
 obtain⟨h1,h2,m⟩:=h;refine⟨by rw[af,K2];rfl,by rw[La,La,h2];rfl,λi c g b j=>?_⟩;have a:∀c g,H c=some (.tup (qi g))->aD H l (.lst (ts.map V.ref++[V.ref t])) c=some (.tup (qi g)):=λc g e=>by
  rw[ar (λz=>by rw[z,h1]at e;cases e)];exact e
 by_cases k:i<ts.length
 ·rw[K' k]at b
  rw[K' ⋯]at j;exact a _ _ (m i c g b j)
 ·rw[K_ ⋯]at b
  rw[K_ ⋯]at j;have lU:i=ts.length:=by
   have:=(KM.mp b).1;simp at this;omega
  subst lU;rw[Nat.sub_self]at b;rw[h2,Nat.sub_self]at j;cases b;cases j
  exact a _ _ ht
def addNew(ks:LW)(z:Str):List Str:=if z∈ks then ks else ks++[z]
theorem rP(m:List (Str×List Nat))(z:Str):(cr m z).map (·.1)=addNew (m.map (·.1)) z:=by
 unfold cr addNew
 split
 ·rfl
 ·rw[K2];rfl
theorem pN:∀(zs:LW) (m:List (Str×List Nat)),(zs.foldl cr m).map (·.1)=zs.foldl addNew (m.map (·.1))
 | [],_=>rfl
 |z::zs,m=>by rw[List.foldl_cons,List.foldl_cons,pN zs,rP]
theorem yS(m:List (Str×List Nat))(i:Nat)(r:Nat×RV):(eN m i r).map (·.1)=(tx r.2.n::(bT r.1 r.2).map tx).foldl addNew (m.map (·.1)):=by
 unfold eN;rw[pN,iA,rP,List.foldl_cons]
def dE(z:Str)(rs:Yaa):List Nat:=rs.zipIdx.filterMap λx=>if tx x.1.2.n=z then some x.2 else none
theorem xr(z:Str)(rs:Yaa)(r:Nat×RV):dE z (rs++[r])=dE z rs++if tx r.2.n=z then[rs.length] else[]:=by
 unfold dE;rw[List.zipIdx_append,List.filterMap_append]
 congr 1
 simp
 split<;>rename_i h<;>simp[h]
theorem xL{z:Str}:∀{rs:Yaa},(∀r∈rs,tx r.2.n≠z)->dE z rs=[]:=by
 intro rs h;unfold dE;rw[List.filterMap_eq_nil_iff];intro x a;rw[q06 (h x.1 (List.fst_mem_of_mem_zipIdx a))]
structure NI(rs:Yaa)(m:List (Str×List Nat)):Prop where
 nd:(m.map (·.1)).Nodup
 ix:∀q∈m,q.2=dE q.1 rs
 all:∀r∈rs,tx r.2.n∈m.map (·.1)
theorem pY{y:Str}:y∈(cr m z).map (·.1)↔y∈m.map (·.1)\/y=z:=by
 unfold cr
 split
 ·rename_i h
  exact⟨λq=>.inl q,λq=>q.elim id λe=>e▸h⟩
 ·rw[K2,K3];simp
theorem NI.name(h:NI rs m)(z:Str):NI rs (cr m z):=by
 refine⟨lT h.nd,λq hq=>?_,λr hr=>pY.mpr (.inl (h.all r hr))⟩;unfold cr at hq
 split at hq
 ·exact h.ix q hq
 ·rename_i hz
  rcases K3.mp hq with q1 | q1
  ·exact h.ix q q1
  ·rw[KP.mp q1]
   exact(xL (z:=z) λr hr e=>hz (by rw[<- e];exact h.all r hr)).symm
theorem NI.names:∀(zs:LW) {m:List (Str×List Nat)},NI rs m->NI rs (zs.foldl cr m)
 | [],_,h=>h
 |z::zs,m,h=>NI.names zs (h.name z)
theorem NI.put{r:Nat×RV}(h:NI rs m)(hn:tx r.2.n∈m.map (·.1)):NI (rs++[r]) (iR m (tx r.2.n) rs.length):=by
 refine⟨by rw[iA];exact h.nd,λq b=>?_,λg a=>?_⟩
 ·unfold iR at b
  obtain⟨p,c,rfl⟩:=Lx.mp b;rw[xr]
  by_cases e:p.1=tx r.2.n
  ·rw[q07 e]
   show p.2++[rs.length]=dE p.1 rs++_;rw[q07 e.symm,h.ix p c]
  ·rw[q06 e,q06 (λz=>e z.symm),Lm]
   exact h.ix p c
 ·rw[iA]
  rcases K3.mp a with q | q
  ·exact h.all g q
  ·rw[KP.mp q];exact hn
theorem jS(z:Str):∀(n:Nat) (rs:Yaa),rs.length=n->NI rs (bJ z rs)
 |0,rs,h=>by
  rw[Lw.mp h];exact⟨by simp[bJ,fX],λq hq=>by rw[show q=(z,[]) by simpa[bJ,fX]using hq];rfl,λr hr=>nomatch hr⟩
 |n+1,rs,h=>by
  obtain⟨rs',r,rfl⟩:∃rs' r,rs=rs'++[r]:=⟨rs.dropLast,rs.getLast (by intro e;rw[e]at h;cases h),(List.dropLast_concat_getLast _).symm⟩;have hl:rs'.length=n:=by rw[La,q0Z]at h;omega
  have a:=jS z n rs' hl;unfold bJ at a ⊢;rw[gg,Nat.zero_add];unfold eN;exact((a.name (tx r.2.n)).put (pY.mpr (.inr rfl))).names _
theorem q9:∀{m:List (Str×List Nat)} {q:Str×List Nat},(m.map (·.1)).Nodup->q∈m->m.lookup q.1=some q.2
 |p::m,q,hnd,hq=>by
  rw[Lh,List.nodup_cons]at hnd;rw[List.lookup_cons];rcases K5.mp hq with e | e
  ·rw[e];simp
  ·have hne:q.1≠p.1:=λz=>hnd.1 (z▸List.mem_map_of_mem e)
   have:(q.1==p.1)=false:=beq_eq_false_iff_ne.mpr hne;rw[this];exact q9 hnd.2 e
theorem DW{q:Str×List Nat}(h:q∈bJ z rs):(bJ z rs).lookup q.1=some (dE q.1 rs)/\q.2=dE q.1 rs:=by
 have N:=jS z _ rs rfl;have e:=N.ix q h;exact⟨by rw[q9 N.nd h,e],e⟩
def F1(rs:Yaa):List ThM.NR:=rs.map λr=>(tx r.2.n,(bT r.1 r.2).map tx)
theorem xA{ks:LW}{y:Str}:y∈addNew ks z↔y∈ks\/y=z:=ThM.mem_addNew
theorem lH{y:Str}:∀(zs ks:LW),y∈zs.foldl addNew ks↔y∈ks\/y∈zs
 | [],ks=>by simp
 |z::zs,ks=>by
  rw[List.foldl_cons,lH zs,xA,K5];exact⟨λh=>h.elim (λh=>h.elim .inl λe=>.inr (.inl e)) λh=>.inr (.inr h),λh=>h.elim (λh=>.inl (.inl h)) λh=>h.elim (λe=>.inl (.inr e)) .inr⟩
theorem Ak(z:Str)(rs:Yaa)(r:Nat×RV):(bJ z (rs++[r])).map (·.1)=(tx r.2.n::(bT r.1 r.2).map tx).foldl addNew ((bJ z rs).map (·.1)):=by
 unfold bJ;rw[gg,yS]
theorem CH{α:Type}{P:List α->Prop}(h0:P [])(h1:∀rs r,P rs->P (rs++[r]))(rs:List α):P rs:=by
 have:∀(n:Nat) (rs:List α),rs.length=n->P rs:=by
  intro n
  induction n with
  |zero=>intro rs h;rw[Lw.mp h];exact h0
  |succ n ih=>
   intro rs h;have a:rs≠[]:=by intro e;rw[e]at h;cases h
   rw[<- List.dropLast_concat_getLast a];exact h1 _ _ (ih _ (by rw[List.length_dropLast];omega))
 exact this _ rs rfl
theorem jg(z:Str)(rs:Yaa):∀y,y∈(bJ z rs).map (·.1)↔y=z\/∃r∈F1 rs,y=r.1\/y∈r.2:=by
 refine CH (P:=λrs=>∀y,y∈(bJ z rs).map (·.1)↔y=z\/∃r∈F1 rs,y=r.1\/y∈r.2) ?_ ?_ rs
 ·intro y
  have e:(bJ z []).map (·.1)=[z]:=rfl;rw[e];unfold F1;simp
 ·intro rs r a y
  rw[Ak,lH,a y,K5];unfold F1;rw[K2]
  constructor
  ·rintro((h | ⟨q,hq,h⟩) | h)
   ·exact .inl h
   ·exact .inr ⟨q,K3.mpr (.inl hq),h⟩
   ·exact .inr ⟨_,K3.mpr (.inr (KP.mpr rfl)),h⟩
  ·rintro(h | ⟨q,hq,h⟩)
   ·exact .inl (.inl h)
   ·rcases K3.mp hq with hq | hq
    ·exact .inl (.inr ⟨q,hq,h⟩)
    ·rw[KP.mp hq]at h
     exact .inr h
theorem DS{sg:LO}{c:Nat}(h:c∈sg):Gg (tx sg) (tx [c])=true:=by
 have:=StrLaws.found_one (tx sg) c;show(!(Builtin.Str.occurrences (tx sg) ⟨#[c]⟩ 0 (tx sg).length 1).isEmpty)=true;rw[this,dh,q09 h]
theorem lx{sg:LO}:∀{rs:Yaa} {j:Nat},(∀r∈rs,∃c∈sg,r.2.sg=[c])->gB (tx sg) rs j=none
 | [],_,_=>rfl
 |r::rs,j,h=>by
  obtain⟨c,hc,e⟩:=h r q0B;unfold gB;rw[q06 (λz=>by rw[e,DS hc]at z;exact q0Q z.2 b⁻¹)];exact lx λr' hr'=>h r' (K6 _ hr')
theorem zB{p:aL}{st:LO}{rs:Yaa}(hsg:jy sg=true)(hst:st∈p)(hpn:∀r∈p,dN r=true)(hp:p.length<=8)(hn:rs.length<=24)(hr:∀r∈rs,jo p sg r):oy sg st rs=none:=by
 have l:ig sg st rs=none:=by
  unfold ig;rw[q06 (by rw[hsg];decide),q06 (by rw[hpn _ hst];decide),q06 ⋯,lx λr h=>(hr r h).sg]
 unfold oy;rw[l];simp only[];rw[q06];have j:∀z∈(bJ (tx st) rs).map (·.1),z∈p.map tx:=λz g=>by
  rcases(jg _ _ _).mp g with e | ⟨q,c,e⟩
  ·rw[e];exact List.mem_map_of_mem hst
  ·unfold F1 at c
   obtain⟨r,b,rfl⟩:=Lx.mp c;have R:=hr r b;rcases e with e | e
   ·rw[e];exact List.mem_map_of_mem R.n
   ·obtain⟨y,a,rfl⟩:=Lx.mp e
    refine List.mem_map_of_mem ?_;obtain⟨k,v⟩:=r;rcases eM R.good.k4 with rfl | rfl | rfl | rfl
    ·exact q0Q a List.not_mem_nil
    ·rcases(show y=v.o1\/y=v.o2 by simpa[bT]using a) with rfl | rfl
     ·exact R.o1
     ·exact R.o2
    ·rcases(show y=v.o1\/y=v.o2 by simpa[bT]using a) with rfl | rfl
     ·exact R.o1
     ·exact R.o2
    ·rw[show y=v.o1 by simpa[bT]using a];exact R.o1
 have:=ThM.nd_len (jS (tx st) _ rs rfl).nd j;rw[KO,KO]at this;omega
theorem bO.zip(h:bO R H as rs):(as.zip rs).map (λx=>V.ref x.1)=as.map V.ref/\(as.zip rs).map (·.2)=rs/\∀x∈as.zip rs,fV R H x.2.1 x.1 x.2.2:=by
 refine⟨?_,List.map_snd_zip (by have:=h.1;omega),λx b=>?_⟩
 ·have e:(as.zip rs).map (λx=>V.ref x.1)=((as.zip rs).map Prod.fst).map V.ref:=by rw[K4];rfl
  rw[e,List.map_fst_zip (by have:=h.1;omega)]
 ·obtain⟨i,c,e⟩:=List.mem_iff_getElem.mp b
  have a:(as.zip rs)[i]?=some x:=by rw[KL c,e]
  rw[List.getElem?_zip_eq_some]at a;exact h.2 i x.1 x.2 a.1 a.2
structure HX(K:W.Frag)(C:Addr):Prop where
 cl:jn K C
 na:aC K C "signs"/\aC K C "start"/\aC K C "kept"/\aC K C "numbers"
abbrev s_:Stmt:=fY 10
theorem Fn(x:Str):x=tx x.cps.toList:=by unfold tx;simp
theorem D_(p:aL):Txt.join (Str.ofString "/") (p.map tx)=tx (SpM.glue 47 p):=by
 have e:(Txt.join (Str.ofString "/") (p.map tx)).cps.toList=SpM.glue 47 p:=by
  have h:=SpM.join_glue 47 (p.map tx);rw[K4]at h;have a:((λy:Str=>y.cps.toList)∘tx)=id:=by funext r;exact dh r
  rw[a,List.map_id]at h;exact h
 rw[<- e];exact Fn _
inductive dQ(K:W.Frag)(vs:List V)(H:Hp)(Q:VK)(_E:XK):Prop
 |mk (a:Addr) (p:aL) (_:vs=[.ref a]) (_:H a=some (.lst (ao p))) (_:eZ p) (_:Q (.str (tx (SpM.glue 47 p))) H)
theorem Cc:aG ["picture"] ["picture"] (aq s_):=by walk_at "c"
theorem mq:∀{p:aL} {n:Nat},(∀r∈p,r.length<=n)->((p.map tx).map λy:Str=>y.length).sum<=p.length*n
 | [],n,_=>by simp
 |r::p,n,h=>by
  have h1:=h r (by simp);have h2:=mq (p:=p) (n:=n) λx hx=>h x (by simp[hx]);simp only[Lh,List.sum_cons,ax,K1];rw[Nat.succ_mul];omega
theorem Cq{f:Addr}(F:dG K "shown" "shown" s_ f fd):↑bj 1 f fd ["picture"] (dQ K):=by
 have sc:=Cc;walk_at "f"
 ·obtain⟨a,p,rfl,c,b,q⟩:=h
  refine⟨_,(ag (aM (@yA _ _ _ _ _ _ _ _ (ac (al 0) ad) rfl rfl))),?_⟩;ext;refine⟨rfl,p.map tx,.inl (by rw[<- eB];exact aQ.of c),?_,?_⟩
  ·have:=mq b.2
   have h1:=b.1;have e:(Str.ofString "/").length=1:=rfl;rw[KO,e];have h2:p.length*64<=64*64:=Nat.mul_le_mul_right _ h1;omega
  ·rw[D_];exact q
abbrev oE:Stmt:=fY 15
def kc(sb:Bool)(p:aL)(n:Nat):aL:=if sb=true then p.map (List.take n) else p.take n
def gE(sb:Bool)(p:aL)(n:Nat):aL:=if sb=true then p.map (List.drop n) else p.drop n
inductive rE(K:W.Frag)(vs:List V)(H:Hp)(Q:VK)(_E:XK):Prop
 |mk (sb:Bool) (a:Addr) (p:aL) (r c n:Nat) (_:vs=[.ref a,.bl sb,.int (n:Int)]) (_:aQ K H a (ao p)) (_:rect p r c) (_:r<=6) (_:c<=6) (_:n<=(if sb=true then c else r)) (_:∀(t l1 l2:Addr) (H':Hp),H t=none->H l1=none->H l2=none->l1≠l2->H' t=some (.tup [.ref l1,.ref l2])->H' l1=some (.lst (ao (kc sb p n)))->H' l2=some (.lst (ao (gE sb p n)))->az H H'->Q (.ref t) H')
theorem yX:aG ["picture","side_by_side","at"] ["picture","side_by_side","at"] (aq oE):=by walk_at "c"
theorem Ct{row:LO}{n:Nat}(h:n<=row.length):Txt.slice (tx row) none (some (n:Int))=tx (row.take n):=by
 rw[gS,HT.sIx_nat,LI h];show tx ((row.drop 0).take (n-0))=_;rw[LK,Nat.sub_zero]
theorem wm{row:LO}{n:Nat}(h:n<=row.length):Txt.slice (tx row) (some (n:Int)) none=tx (row.drop n):=by
 rw[gS,HT.sIx_nat,LI h];show tx ((row.drop n).take (row.length-n))=_;rw[q0F (by rw[Lr];omega)]
theorem FE{p:aL}{n:Nat}(h:n<=p.length):qg (ao p) none (some (n:Int))=ao (p.take n):=by
 unfold qg;rw[HT.sIx_nat,ak,LI h];show((ao p).drop 0).take (n-0)=_;rw[LK,Nat.sub_zero];unfold ao;rw[List.map_take]
theorem AH{p:aL}{n:Nat}(h:n<=p.length):qg (ao p) (some (n:Int)) none=ao (p.drop n):=by
 unfold qg;rw[HT.sIx_nat,ak,LI h];show((ao p).drop n).take (p.length-n)=_;rw[q0F (by rw[Lr,ak];omega)];unfold ao;rw[List.map_drop]
theorem zr{f:Addr}(F:dG K "parted" "parted" oE f fd)(nb:NB mg):↑bj 1 f fd ["picture","side_by_side","at"] (rE K):=by
 have sc:=yX;walk_at "f"
 ·obtain⟨M,a,p,r,c,n,rfl,D,C,hr1,hc1,I,q⟩:=h
  refine⟨_,(ae (bL (g8 (al 1) λ_=>rfl)
   (ag (aM (bD (ac (cH ["row"] [2] rfl (bY.of f⁻¹) f⁻¹ (bR (al 0))
    (λ_ _ _ _=>(ay (i:=0) (by show(["row","at"]:List Str).Nodup;decide +kernel) rfl (Or.inl rfl))) (λ_ _ _ _=>cJ) (λ_ _ _ _=>(eV oU (al 0) jF (eO (al 1))))) (ac (cH ["row"] [2] rfl (bY.of f⁻¹) f⁻¹ (bR (al 0))
    (λ_ _ _ _=>(ay (i:=0) (by show(["row","at"]:List Str).Nodup;decide +kernel) rfl (Or.inl rfl))) (λ_ _ _ _=>cJ) (λ_ _ _ _=>(eV oU (al 0) (eO (al 1)) jF))) ad)))))
   aW)
   (ag (aM (bD (ac (eV tW (al 0) jF (eO (al 2))) (ac (eV tW (al 0) (eO (al 2)) jF) ad)))))),?_⟩
  ext;cases M with
  |true=>
   rw[q07 rfl]at I ⊢;refine⟨⟨_,D⟩,eC (xs:=ao p) (λi b σ u=>u=H/\b=ao ((p.take i).map (List.take n))/\i<=p.length/\∃y,σ=[y,some (V.int (n:Int))]) ⟨rfl,rfl,Lc _,_,rfl⟩ ?_ ?_ ?_ ?_ ?_⟩
   ·rintro i b σ u ⟨_,rfl,L,_⟩
    rw[ak,KO,Lq];exact bc (by rw[C.1]at *;omega)
   ·rintro i b σ u ⟨_,_,h,_⟩
    rw[ak];exact h
   ·rintro i b σ u ⟨rfl,_⟩
    exact D
   ·rintro i v b σ u B ⟨rfl,rfl,L,y,rfl⟩
    have x:i<p.length:=by have:=(KM.mp B).1;rwa [ak]at this
    rw[bz x]at B;cases B;have G:=C.2 _ (KY x);ext;refine⟨by rw[ax];exact au ⋯,?_,x⟩;rw[Ct ⋯,q0E,KL x,K2];exact(cU _ _).symm
   ·rintro b σ u ⟨rfl,rfl,_⟩ j l
    rw[ak,Lp];have k:az u (aD u j (HO.lst (ao (p.map (List.take n))))):=aj l;have h1:aD u j (HO.lst (ao (p.map (List.take n)))) j=some (HO.lst (ao (p.map (List.take n)))):=af;generalize aD u j (HO.lst (ao (p.map (List.take n))))=H1 at k h1 ⊢;refine⟨⟨_,k.seq D⟩,eC (xs:=ao p) (λi b σ H2=>H2=H1/\b=ao ((p.take i).map (List.drop n))/\i<=p.length/\∃y,σ=[y,some (V.int (n:Int))]) ⟨rfl,rfl,Lc _,_,rfl⟩ ?_ ?_ ?_ ?_ ?_⟩
    ·rintro i b σ H2 ⟨_,rfl,L,_⟩
     rw[ak,KO,Lq];exact bc (by rw[C.1]at *;omega)
    ·rintro i b σ H2 ⟨_,_,h,_⟩
     rw[ak];exact h
    ·rintro i b σ H2 ⟨rfl,_⟩
     exact k.seq D
    ·rintro i v b σ H2 B ⟨rfl,rfl,L,y,rfl⟩
     have x:i<p.length:=by have:=(KM.mp B).1;rwa [ak]at this
     rw[bz x]at B;cases B;have G:=C.2 _ (KY x);ext;refine⟨by rw[ax];exact au ⋯,?_,x⟩;rw[wm ⋯,q0E,KL x,K2];exact(cU _ _).symm
    ·rintro b σ H2 ⟨rfl,rfl,_⟩ z g
     rw[ak,Lp];refine⟨au ⋯,λt m=>?_⟩;have J:j≠z:=aI h1 g;have e:∀o,az H2 (aD H2 z o):=λo=>aj g;refine q t j z _ ?_ l (k.free g) J af ?_ ?_ ((k.trans (e _)).trans (aj m))
     ·exact k.free ((e _).free m)
     ·exact(aj m) _ _ ((e _) _ _ h1)
     ·exact(aj m) _ _ af
  |false=>
   rw[q06 b⁻¹]at I ⊢;refine⟨_,D,λj l=>?_⟩;rw[FE (by rw[C.1];exact I)];have k:az H (aD H j (HO.lst (ao (p.take n)))):=aj l;have h1:aD H j (HO.lst (ao (p.take n))) j=some (HO.lst (ao (p.take n))):=af;generalize aD H j (HO.lst (ao (p.take n)))=H1 at k h1 ⊢;refine⟨_,k.seq D,λz g=>⟨au ⋯,λt m=>?_⟩⟩;rw[AH (by rw[C.1];exact I)]at m ⊢;have J:j≠z:=aI h1 g;have e:∀o,az H1 (aD H1 z o):=λo=>aj g;refine q t j z _ ?_ l (k.free g) J af ?_ ?_ ((k.trans (e _)).trans (aj m))
   ·exact k.free ((e _).free m)
   ·exact(aj m) _ _ ((e _) _ _ h1)
   ·exact(aj m) _ _ af
abbrev wG:Stmt:=fY 23
inductive yb(vs:List V)(H:Hp)(Q:VK)(_E:XK):Prop
 |mk (t:Nat) (_:vs=[.int (t:Int)]) (_:t<8) (_:Q (.int (di t:Nat)) H)
theorem Eb:aG ["t"] ["t"] (aq wG):=by walk_at "c"
theorem D6{f:Addr}(F:dG K "back" "back" wG f fd):↑bj 1 f fd ["t"] yb:=by
 have sc:=Eb;walk_at "f"
 ·obtain⟨t,rfl,ht,q⟩:=h
  refine⟨_,(ae (bL (aN (bC.m0 ot) (al 0) ai (aR _))
   (ag (aM (aw (bC.m1 bf) (aw (bC.m0 kL) ai (al 0)) ai)))
   aW)
   (ag (aM (al 0)))),?_⟩
  ext
  split
  ·have e:((di t:Nat):Int)=(4-(t:Int))%4:=by unfold di;rw[q07 ⋯];omega
   rw[<- e];exact q
  ·have e:((di t:Nat):Int)=(t:Int):=by unfold di;rw[q06 ⋯]
   rw[<- e];exact q
abbrev iz:Stmt:=fY 11
def cg(H:Hp):List Addr->List Wn->Prop
 | [],[]=>True
 |b::bs,x::xs=>H b=some (.tup (x.map V.int))/\cg H bs xs
 |_,_=>False
theorem cg.same(sm:az H H'):∀{bs:LR} {xs:List Wn},cg H bs xs->cg H' bs xs
 | [],[],_=>trivial
 |_::_,_::_,h=>⟨sm _ _ h.1,cg.same sm h.2⟩
 | [],_::_,h=>h.elim
 |_::_,[],h=>h.elim
theorem cg.snoc{H:Hp}{x:Wn}(hb:H b=some (.tup (x.map V.int))):∀{bs:LR} {xs:List Wn},cg H bs xs->cg H (bs++[b]) (xs++[x])
 | [],[],_=>⟨hb,trivial⟩
 |_::_,_::_,h=>⟨h.1,cg.snoc hb h.2⟩
 | [],_::_,h=>h.elim
 |_::_,[],h=>h.elim
theorem cg.get:∀{bs:LR} {xs:List Wn} {i:Nat} {b:Addr},cg H bs xs->bs[i]?=some b->∃x,xs[i]?=some x/\H b=some (.tup (x.map V.int))
 | [],_,_,_,_,e=>by simp at e
 |c::bs,x::xs,0,b,h,e=>by simp at e;subst e;exact⟨x,rfl,h.1⟩
 |c::bs,x::xs,i+1,b,h,e=>by
  obtain⟨y,h1,h2⟩:=cg.get (i:=i) h.2 (by simpa using e);exact⟨y,by simpa using h1,h2⟩
 |_::_,[],_,_,h,_=>h.elim
theorem cg.length:∀{bs:LR} {xs:List Wn},cg H bs xs->bs.length=xs.length
 | [],[],_=>rfl
 |_::_,_::_,h=>by simp[cg.length h.2]
 | [],_::_,h=>h.elim
 |_::_,[],h=>h.elim
inductive j5(vs:List V)(H:Hp)(Q:VK)(_E:XK):Prop
 |mk (r c:Nat) (_:vs=[.int (r:Int),.int (c:Int)]) (_:r<=8) (_:c<=8) (_:∀(l:Addr) (bs:LR) (H':Hp),H l=none->H' l=some (.lst (bs.map V.ref))->cg H' bs (kG r c)->az H H'->Q (.ref l) H')
theorem qL:aG ["rows","columns","windows","top","left","bottom","right"] ["rows","columns"] (aq iz):=by walk_at "c"
structure h_(H H':Hp)(l:Addr)(xs:List Wn)(n:Nat):Prop where
 ex:∃bs:List Addr,H' l=some (.lst (bs.map V.ref))/\cg H' bs xs/\bs.length<=n
 sm:az H H'
theorem h_.more{m:Nat}(h:h_ H H' l xs n)(hm:n<=m):h_ H H' l xs m:=
 ⟨let ⟨bs,h1,h2,h3⟩:=h.ex;⟨bs,h1,h2,Lj h3 hm⟩,h.sm⟩
theorem h_.snoc{H H':Hp}{x:Wn}{n:Nat}{bs:LR}(hl:H l=none)(h1:H' l=some (.lst (bs.map V.ref)))(h2:cg H' bs xs)(h3:bs.length<=n)(sm:az H H')(hp:H' p=none) :
  h_ H (aD (aD H' p (.tup (x.map V.int))) l (.lst (bs.map V.ref++[V.ref p]))) l (xs++[x]) (n+1):=by
 have g:p≠l:=λe=>by rw[e,h1]at hp;cases hp
 refine⟨⟨bs++[p],?_,?_,by rw[La,q0Z];omega⟩,bE (bE sm (sm.free hp)) hl⟩
 ·rw[af,K2];rfl
 ·refine cg.snoc (by rw[ar g,af]) ?_
  -- no tuple is the list
  have k:∀{b:LR} {a:List Wn},cg H' b a->cg (aD (aD H' p (.tup (x.map V.int))) l (.lst (bs.map V.ref++[V.ref p]))) b a:=by
   intro b
   induction b with
   |nil=>intro a h;cases a with
    |nil=>trivial
    |cons _ _=>exact h.elim
   |cons c b ih=>
    intro a h;cases a with
    |nil=>exact h.elim
    |cons y a=>
     have j:c≠l:=qY h.1 h1 (by intro z;cases z);exact⟨by rw[ar j,ar (aI h.1 hp)];exact h.1,ih h.2⟩
  exact k h2
theorem qj{f:Addr}(F:dG K "windows_of" "windows_of" iz f fd)(nb:NB mg):↑bj 1 f fd ["rows","columns"] j5:=by
 have sc:=qL;walk_at "f"
 ·obtain⟨r,c,rfl,hr1,hc1,q⟩:=h
  refine⟨_,(ae (q01 2 sc.nd (bI ad))
   (ae (bF PassesOwn.never rfl (cD rfl nb.range (ac (al 0) ad)) (q02 3 sc.nd)
   (ag (bF PassesOwn.never rfl (cD rfl nb.range (ac (al 1) ad)) (q02 4 sc.nd)
   (ag (bF PassesOwn.never rfl (lX rfl nb.range (ac (aw (bC.m0 bU) (al 3) ai) (ac (aw (bC.m0 bU) (al 0) ai) ad))) (q02 5 sc.nd)
   (ag (bF PassesOwn.never rfl (lX rfl nb.range (ac (aw (bC.m0 bU) (al 4) ai) (ac (aw (bC.m0 bU) (al 1) ai) ad))) (q02 6 sc.nd)
   (ag (bi (q03 (al 2) (ac (bD (ac (al 3) (ac (al 4) (ac (al 5) (ac (al 6) ad))))) ad)))))))))))
   (ag (aM (al 2))))),?_⟩
  ext;refine⟨au ⋯,λl B=>⟨⋯,⋯,?_⟩⟩;rw[KZ];refine cL (lo:=0) (n:=r) (λt σ H1=>t<=r/\h_ H H1 l (W1 r c t) (t*1000)/\∃o j g b,σ=[some (V.int r),some (V.int c),some (V.ref l),o,j,g,b])
   ⟨Lc _,⟨⟨[],af,trivial,Lc _⟩,aj B⟩,_,_,_,_,rfl⟩ ?_ ?_
  ·rintro t σ H1 L ⟨_,J,o,j,g,b,rfl⟩
   ext;refine⟨⋯,⋯,?_⟩;rw[KZ];refine cL (lo:=0) (n:=c) (λa σ H2=>a<=c/\h_ H H2 l (W1 r c t++W2 r c t a) (t*1000+a*100)/\∃j g b,σ=[some (V.int r),some (V.int c),some (V.ref l),some (V.int t),j,g,b])
    ⟨Lc _,by show h_ H H1 l (W1 r c t++[]) _;rw[Lm];exact J.more ⋯,_,_,_,rfl⟩ ?_ ?_
   ·rintro a σ H2 z ⟨_,x,j,g,b,rfl⟩
    ext;refine⟨⋯,⋯,⋯,⋯,?_⟩;rw[show((r:Int)+1-((t:Int)+1)).toNat=r-t by omega];refine cL (lo:=(t:Int)+1) (n:=r-t) (λbt σ m=>bt<=r-t/\h_ H m l (W1 r c t++W2 r c t a++W3 c t a bt) (t*1000+a*100+bt*10)/\∃g b,σ=[some (V.int r),some (V.int c),some (V.ref l),some (V.int t),some (V.int a),g,b])
     ⟨Lc _,by show h_ H H2 l (W1 r c t++W2 r c t a++[]) _;rw[Lm];exact x.more ⋯,_,_,rfl⟩ ?_ ?_
    ·rintro bt σ m C ⟨_,v,g,b,rfl⟩
     ext;refine⟨⋯,⋯,⋯,⋯,?_⟩;rw[show((c:Int)+1-((a:Int)+1)).toNat=c-a by omega];refine cL (lo:=(a:Int)+1) (n:=c-a) (λk σ D=>k<=c-a/\h_ H D l (W1 r c t++W2 r c t a++W3 c t a bt++W4 t a (t+1+bt) k) (t*1000+a*100+bt*10+k)/\∃b,σ=[some (V.int r),some (V.int c),some (V.ref l),some (V.int t),some (V.int a),some (V.int ((t:Int)+1+bt)),b])
      ⟨Lc _,by show h_ H m l (W1 r c t++W2 r c t a++W3 c t a bt++[]) _;rw[Lm];exact v.more ⋯,_,rfl⟩ ?_ ?_
     ·rintro k σ D M ⟨_,u,b,rfl⟩
      obtain⟨⟨bs,h1,h2,I⟩,y⟩:=u;ext;refine⟨.inl ⟨rfl,_,aQ.of h1⟩,au ⋯,λp G=>⟨_,by rw[ar (aI h1 G)];exact h1,?_,M,?_⟩⟩
      ·rw[KO];exact bc ⋯
      ·rw[D4,<- Ln]
       have e:[V.int (t:Int),V.int (a:Int),V.int ((t:Int)+1+(bt:Int)),V.int ((a:Int)+1+(k:Int))]=(wn t a (t+1+bt) (a+1+k)).map V.int:=by unfold wn;simp
       rw[e];exact h_.snoc B h1 h2 I y G
     ·rintro σ D ⟨_,u,b,rfl⟩
      refine⟨C,?_,_,_,rfl⟩;rw[Dh,<- Ln];exact u.more ⋯
    ·rintro σ m ⟨_,v,g,b,rfl⟩
     refine⟨z,?_,_,_,_,rfl⟩;rw[DL,<- Ln];exact v.more ⋯
   ·rintro σ H2 ⟨_,x,j,g,b,rfl⟩
    refine⟨L,?_,_,_,_,_,rfl⟩;rw[DM];exact x.more ⋯
  ·rintro σ H1 ⟨_,⟨⟨bs,h1,h2,I⟩,y⟩,o,j,g,b,rfl⟩
   ext;exact q l bs H1 B h1 h2 y
abbrev mw:Stmt:=fY 12
inductive A8(K:W.Frag)(vs:List V)(H:Hp)(Q:VK)(_E:XK):Prop
 |mk (a tp:Addr) (p:aL) (r c t l b x:Nat) (_:vs=[.ref a,.ref tp]) (_:aQ K H a (ao p)) (_:cR K H tp ((wn t l b x).map V.int)) (_:rect p r c) (_:r<=64) (_:c<=64) (_:t<b) (_:b<=r) (_:l<x) (_:x<=c) (_:fO H (cut p t l b x) Q)
theorem xi:aG ["picture","window","top","left","bottom","right"] ["picture","window"] (aq mw):=by walk_at "c"
theorem Cb{row:LO}{l x:Nat}(h1:l<=x)(h2:x<=row.length):Txt.slice (tx row) (some (l:Int)) (some (x:Int))=tx ((row.drop l).take (x-l)):=by
 rw[gS,HT.sIx_nat,HT.sIx_nat,LI (show l<=row.length by omega),LI h2]
theorem Bt{p:aL}{t b:Nat}(h1:t<=b)(h2:b<=p.length):qg (ao p) (some (t:Int)) (some (b:Int))=ao ((p.drop t).take (b-t)):=by
 unfold qg;rw[HT.sIx_nat,HT.sIx_nat,ak,LI (show t<=p.length by omega),LI h2];unfold ao;rw[List.map_take,List.map_drop]
theorem wB{f:Addr}(F:dG K "cut_out" "cut_out" mw f fd)(nb:NB mg):↑bj 1 f fd ["picture","window"] (A8 K):=by
 have sc:=xi;walk_at "f"
 ·obtain⟨a,tp,p,r,c,t,l,b,x,rfl,O,u,J,hr1,hc1,h1,h2,h3,h4,q⟩:=h
  refine⟨_,(ae (q01 2 sc.nd (aP aU (al 1) ai (λ_ _=>rfl)))
   (ae (aA (i:=3) sc.nd rfl (Or.inr rfl) (aP aU (al 1) ai (λ_ _=>rfl)))
   (ae (q01 4 sc.nd (aP aU (al 1) ai (λ_ _=>rfl)))
   (ae (aA (i:=5) sc.nd rfl (Or.inr rfl) (aP aU (al 1) ai (λ_ _=>rfl)))
   (ag (aM (cH ["row"] [3,5] rfl (bY.of f⁻¹) f⁻¹ (bR (eV tW (al 0) (eO (al 2)) (eO (al 4))))
    (λ_ _ _ _=>(ay (i:=0) (by show(["row","left","right"]:List Str).Nodup;decide +kernel) rfl (Or.inl rfl))) (λ_ _ _ _=>cJ) (λ_ _ _ _=>(eV oU (al 0) (eO (al 1)) (eO (al 2))))))))))),?_⟩
  ext;refine⟨_,u,V.int t,bo (j:=0) rfl,_,u,V.int l,bo (j:=1) rfl,_,u,V.int b,bo (j:=2) rfl,_,u,V.int x,bo (j:=3) rfl,_,rfl,_,rfl,_,O,λG B=>⟨⟨_,aQ.of af⟩,?_⟩⟩;rw[Bt ⋯ (by rw[J.1];omega)];have I:∀row∈(p.drop t).take (b-t),row.length=c:=λrow g=>J.2 row (q0I (q0H g));have m:((p.drop t).take (b-t)).length<=64:=by rw[Lq];omega
  generalize C:(p.drop t).take (b-t)=q0 at I m ⊢;have D:az H (aD H G (HO.lst (ao q0))):=aj B;refine eC (xs:=ao q0) (λi e σ k=>k=aD H G (HO.lst (ao q0))/\e=ao ((q0.take i).map λrow=>(row.drop l).take (x-l))/\i<=q0.length/\∃y,σ=[y,some (V.int l),some (V.int x)]) ⟨rfl,rfl,Lc _,_,rfl⟩ ?_ ?_ ?_ ?_ ?_
  ·rintro i e σ k ⟨_,rfl,M,_⟩
   rw[ak,KO,Lq];exact bc ⋯
  ·rintro i e σ k ⟨_,_,h,_⟩
   rw[ak];exact h
  ·rintro i e σ k ⟨rfl,_⟩
   exact aQ.of af
  ·rintro i v e σ k z ⟨rfl,rfl,M,y,rfl⟩
   have o:i<q0.length:=by have:=(KM.mp z).1;rwa [ak]at this
   rw[bz o]at z;cases z;have g:=I _ (KY o);ext;refine⟨by rw[ax];exact au ⋯,?_,o⟩;rw[Cb ⋯ ⋯,q0E,KL o,K2];exact(cU _ _).symm
  ·rintro e σ k ⟨rfl,rfl,_⟩ L n
   rw[ak,Lp];refine q L _ (D.free n) ?_ (D.trans (aj n));rw[af];unfold cut;rw[C]
abbrev dP:Stmt:=fY 25
def xW(ss:LW):Prop:=ss≠[]/\(ss.headD ⟨#[]⟩).length<=64
inductive dI(K:W.Frag)(vs:List V)(H:Hp)(Q:VK)(_E:XK):Prop
 |mk (a:Addr) (ss:LW) (_:vs=[.ref a]) (_:aQ K H a (ss.map V.str)) (_:xW ss) (_:∀t,H t=none->Q (.ref t) (aD H t (.tup [.int (gH ss),.ref a])))
theorem kD:aG ["picture"] ["picture"] (aq dP):=by walk_at "c"
theorem dM(K:W.Frag):∀l ss H Q E,aQ K H l (ss.map V.str)->xW ss->(∀t,H t=none->Q (.ref t) (aD H t (.tup [.int (gH ss),.ref l])))->dI K [.ref l] H Q E:=λl ss H Q E h1 h2 h3=>⟨l,ss,rfl,h1,h2,h3⟩
theorem kU{f:Addr}(F:dG K "cells_then_rows" "cells_then_rows" dP f fd)(nb:NB mg):↑bj 1 f fd ["picture"] (dI K):=by
 have sc:=kD;walk_at "f"
 ·obtain⟨a,c,rfl,b,g,q⟩:=h
  refine⟨_,(ag (aM (bD (ac (aw (bC.m1 d8) (aE aZ rfl nb.len ba (ac (al 0) ad)) (aE bw rfl nb.len ba (ac (aP aX (al 0) ai (λ_ _=>rfl)) ad))) (ac (al 0) ad))))),?_⟩;ext;obtain⟨k,h1⟩:=g;obtain⟨z,c,rfl⟩:=List.exists_cons_of_ne_nil k;have h2:z.length<=64:=h1;have h3:((z.length:Nat):Int)<=64:=by omega
  refine⟨_,b,_,b,_,bo (j:=0) rfl,z,rfl,au ⋯,.inr ⟨⋯,⋯⟩,au ⋯,λp e=>?_⟩;have:=q p e;unfold gH at this;rw[KO];exact this
abbrev mP:Stmt:=fY 24
inductive oJ(K:W.Frag)(vs:List V)(H:Hp)(Q:VK)(_E:XK):Prop
 |mk (a:Addr) (p:aL) (r c:Nat) (_:vs=[.ref a]) (_:aQ K H a (ao p)) (_:rect p r c) (_:0<r) (_:0<c) (_:r<=6) (_:c<=6) (_:bV p) (_:∀(H':Hp) (l:Addr) (zs:List AP),az H H'->H l=none->H' l=some (.lst (zs.map λz=>V.ref z.1))->(∀z∈zs,H z.1=none/\H' z.1=some (.lst (ao z.2)))->(zs.map (·.1)).Nodup->Gc p r c (zs.map (·.2))->zs.length<=8000->Q (.ref l) H')
theorem cg.dict{H:Hp}{d:Addr}(hd:H d=some (.dK kvs)):∀{bs:LR} {xs:List Wn},cg H bs xs->cg (aD H d o) bs xs
 | [],[],_=>trivial
 |_::_,_::_,h=>⟨by rw[ar (qY h.1 hd (by intro e;cases e))];exact h.1,cg.dict hd h.2⟩
 | [],_::_,h=>h.elim
 |_::_,[],h=>h.elim
theorem wV:aG ["picture","found","window","part","t","seen"] ["picture"] (aq mP):=by walk_at "c"
theorem xM{f:Addr}(F:dG K "seen_in" "seen_in" mP f fd)(nb:NB mg){tkT:Tok}(yal:mg "TURNINGS"=some (.int 8 tkT))(yaK:↑dF 1 "windows_of" ["rows","columns"] j5)(ya2:↑dF 1 "cut_out" ["picture","window"] (A8 K))(zka:↑dF 3 "turned" ["picture","t"] (jK K))(yab:↑dF 1 "shown" ["picture"] (dQ K))(ya1:↑dF 1 "cells_then_rows" ["picture"] (dI K)):↑bj 4 f fd ["picture"] (oJ K):=by
 have sc:=wV;have dM:=dM K;walk_at "f"
 ·obtain⟨a,p,r,c,rfl,hS,hp,a9,d4,c6,d3,c9,q⟩:=h
  have hu:=hr.units;refine⟨_,(ae (q01 1 sc.nd uY)
   (ae (bF PassesOwn.never rfl (bR (q00 yaK hr (ac (aE aZ rfl nb.len ba (ac (al 0) ad)) (ac (aE bw rfl nb.len ba (ac (aP aX (al 0) ai (λ_ _=>rfl)) ad)) ad)))) (q02 2 sc.nd)
   (ae (q01 3 sc.nd (q00 ya2 hr (ac (al 0) (ac (al 2) ad))))
   (ag (bF PassesOwn.never rfl (cD rfl nb.range (ac (cW (v:=.int 8) rfl yal ⟨_,rfl⟩) ad)) (q02 4 sc.nd)
   (ae (q01 5 sc.nd (q00 zka hr (ac (al 3) (ac (al 4) ad))))
   (ag (tQ (Lv (LA (by decide:1<=64) _) hu) (al 1) (q00 yab hr (ac (al 5) ad)) (al 5) rfl)))))))
   (ag (aM (zj (hr.mono b⁻¹) rfl rfl nb.sorted ya1 rfl dM (ac (AZ (al 1) rfl rfl) ad)))))),?_⟩
  ext;intro d hd;have a0:az H (aD H d (HO.dK [])):=aj hd;obtain⟨d0,L⟩:=e_ hp a9;refine⟨_,a0.seq hS,_,a0.seq hS,_,bo (j:=0) (bz d0),_,rfl,by rw[ax,L];exact au ⋯,?_⟩;rw[ak,hp.1,ax,L];refine⟨r,c,rfl,⋯,⋯,λwl bs H1 hwl J a8 a4=>?_⟩;have a1:=CS a9 c6 d4 d3;have hlen:(kG r c).length<=1000:=by unfold check at a1;simp only[q0O,q0b]at a1;exact a1.2
  have d6:=a8.length;have a5:=a0.trans a4;refine⟨_,rfl,⟨_,aQ.of J⟩,?_⟩
  -- the windows
  refine b5 (xs:=bs.map V.ref) (λi σ H2=>i<=bs.length/\(∃R,fL H H2 d (λx=>∃j,j<i/\∃u,u<8/\x=turned (DU p ((kG r c).getD j [])) u) R (8*i))/\H2 wl=some (.lst (bs.map V.ref))/\cg H2 bs (kG r c)/\∃x2 x3 U T,σ=[some (V.ref a),some (V.ref d),x2,x3,U,T]) ?_ ?_ ?_ ?_
  ·refine⟨Lc _,⟨[],?_⟩,J,a8,_,_,_,_,rfl⟩
   exact⟨by rw[a4 _ _ af];rfl,a5,hd,(λz hz=>nomatch hz),List.nodup_nil,List.nodup_nil,λx=>by simp,Lc _⟩
  ·rintro i σ H2 _ ⟨_,_,h,_⟩
   exact aQ.of h
  ·rintro i x σ H2 hx ⟨_,⟨R,S⟩,a2,C,x2,x3,U,T,rfl⟩
   rw[KQ]at hx;cases G:bs[i]? with
   |none=>rw[G]at hx;cases hx
   |some bt=>
    rw[G]at hx;cases hx
    have hi:i<bs.length:=(KM.mp G).1;obtain⟨w0,a7,b4⟩:=C.get G;obtain⟨t,l,b,x,rfl,h1,h2,h3,h4⟩:=pd.mp (KR a7);ext;refine⟨a,bt,p,r,c,t,l,b,x,rfl,S.sm.seq hS,cR.of b4,hp,⋯,⋯,h1,h2,h3,h4,λpl H3 b1 b0 Z=>⟨⋯,?_⟩⟩;have b3:=cn hp h1 h2 h3 h4;have S3:=S.same Z;have b6:=Z _ _ a2;have c1:=C.same Z;have hpl0:=S.sm.free b1;clear S b1 a2 C b4;have eW:(kG r c).getD i []=wn t l b x:=by rw[q0A,a7];rfl
    have e8:Int.toNat 8=8:=rfl;rw[e8];refine cL (lo:=0) (n:=8) (λu σ H4=>(∃R,fL H H4 d (λy=>(∃j,j<i/\∃u,u<8/\y=turned (DU p ((kG r c).getD j [])) u)\/∃k,k<u/\y=turned (cut p t l b x) k) R (8*i+u))/\H4 pl=some (.lst (ao (cut p t l b x)))/\H4 wl=some (.lst (bs.map V.ref))/\cg H4 bs (kG r c)/\∃U T,σ=[some (V.ref a),some (V.ref d),some (V.ref bt),some (V.ref pl),U,T]) ?_ ?_ ?_
    ·exact⟨⟨R,S3.congr λy=>⟨.inl,λz=>z.elim id λ⟨k,c0,_⟩=>q0Q c0 (Nat.not_lt_zero _)⟩⟩,b0,b6,c1,_,_,rfl⟩
    ·rintro u σ H4 b8 ⟨⟨o,O⟩,D,B,a3,U,T,rfl⟩
     ext;refine⟨pl,cut p t l b x,b-t,x-l,u,by simp,aQ.of D,b3,⋯,⋯,⋯,⋯,b8,λbq H5 d5 M m=>?_⟩;obtain⟨o1,o2,r',c',o3,o4,o5,o6,o7⟩:=yK (u:=u) hp c9 h1 h2 h3 h4;have c2:eZ (turned (cut p t l b x) u):=eZ.of o3 ⋯ ⋯;have d2:((turned (cut p t l b x) u).headD []).length<=64:=by rw[aO o3 o4];omega
     obtain⟨e1,S5⟩:=O.step m d5 M o1 o2 d2;refine⟨bq,turned (cut p t l b x) u,rfl,M,c2,aD H5 d (.dK ((mh o (bq,turned (cut p t l b x) u)).map jV)),.inl ⟨o.map jV,_,m _ _ O.tbl,rfl,by rw[KO];exact bc (by have:=O.len;omega),by rw[e1]⟩,⟨_,S5.congr λy=>?_⟩,?_,?_,(a3.same m).dict (m _ _ O.tbl)⟩
     ·constructor
      ·rintro((z | ⟨k,I,g⟩) | z)
       ·exact .inl z
       ·exact .inr ⟨k,⋯,g⟩
       ·exact .inr ⟨u,⋯,z⟩
      ·rintro(z | ⟨k,I,g⟩)
       ·exact .inl (.inl z)
       ·by_cases hq:k=u
        ·exact .inr (by rw[g,hq])
        ·exact .inl (.inr ⟨k,⋯,g⟩)
     ·rw[ar (qY D O.tbl (by intro e;cases e))];exact m _ _ D
     ·rw[ar (qY B O.tbl (by intro e;cases e))];exact m _ _ B
    ·rintro σ H4 ⟨⟨o,O⟩,D,B,a3,U,T,rfl⟩
     refine⟨hi,⟨o,O.congr λy=>?_⟩,B,a3,_,_,_,_,rfl⟩
     constructor
     ·rintro(⟨j,I,g⟩ | ⟨k,I,g⟩)
      ·exact⟨j,⋯,g⟩
      ·exact⟨i,⋯,k,I,by rw[eW,nX];exact g⟩
     ·rintro⟨j,I,k,g,z3⟩
      by_cases hq:j=i
      ·rw[hq,eW,nX]at z3
       exact .inr ⟨k,g,z3⟩
      ·exact .inl ⟨j,⋯,k,g,z3⟩
  ·rintro σ H2 ⟨_,⟨R,S⟩,a2,C,x2,x3,U,T,rfl⟩
   ext;refine⟨_,S.tbl,λv hv=>⟨d,af,R.map Fi,?_,?_,?_⟩⟩
   ·rw[ar (aI S.tbl hv),S.tbl,K4];rfl
   ·intro e he
    obtain⟨z,hz,rfl⟩:=Lx.mp he;obtain⟨I,g,z3,z4,z5⟩:=S.each z hz;refine⟨?_,?_,?_⟩
    ·refine aQ.of ?_
     show aD H2 v (vM v d) z.1=some (.lst ((z.2.map tx).map V.str));rw[ar (aI g hv),g,eB]
    ·show z.2.map tx≠[]
     exact λe=>z3 (List.map_eq_nil_iff.mp e)
    ·show((z.2.map tx).headD ⟨#[]⟩).length<=64
     rw[yx];exact z5
   ·intro es pe se H' l' a6 d1 b2
    obtain⟨ws,pw,rfl⟩:=vk pe _ rfl;have Y:az H2 (aD H2 v (vM v d)):=aj hv;refine q H' l' ws (S.sm.trans (Y.trans a6)) (S.sm.free (Y.free d1)) ?_ ?_ ?_ ?_ (by have h1:=S.len;have h2:=pw.length_eq;rw[KO]at h1;omega)
    ·rw[b2,K4];rfl
    ·intro z hz
     obtain⟨I,g,_⟩:=S.each z (pw.mem_iff.mp hz);exact⟨I,a6 _ _ (Y _ _ g)⟩
    ·exact(pw.map _).nodup_iff.mpr S.nda
    ·refine⟨λy=>?_,yV se ((pw.map _).nodup_iff.mpr S.ndp)⟩
     rw[(pw.map _).mem_iff,S.mem,Ah,KO,d6]
abbrev Ky:=List Nat×List Nat
def Ft(k:Ky):List V:=[.str (tx k.1),.str (tx k.2)]
def kO(k:Ky):List c_:=[.inr (tx k.1),.inr (tx k.2)]
theorem eD(h:tx a=tx b):a=b:=by
 have e:(tx a).cps.toList=(tx b).cps.toList:=by rw[h]
 rwa [dh,dh]at e
theorem uP(h:kO a=kO b):a=b:=by
 obtain⟨a1,a2⟩:=a;obtain⟨b1,b2⟩:=b;unfold kO at h;simp only[List.cons.injEq,Sum.inr.injEq,and_true]at h;rw[eD h.1,eD h.2]
def br(H:Hp)(a:Addr)(k:Ky):Prop:=H a=some (.tup (Ft k))
theorem br.up(h:br H a k)(s:az H H'):br H' a k:=s _ _ h
theorem br.put(h:br H a k)(hl:H l=some (.lst xs)):br (aD H l o) a k:=by
 have b:H a=some (.tup (Ft k)):=h;show aD H l o a=_;rw[ar (λz=>by rw[z,hl]at b;cases b)];exact b
abbrev aT(p:aL):List Nat:=SpM.glue 47 p
theorem yp{β:Type}{A:Hp->Addr->β->Prop}(u:∀{H H':Hp} {b:Addr} {y:β},A H b y->az H H'->A H' b y){H H':Hp}{l:Addr}{ys:List β}(h:lu A H l ys)(s:az H H'):lu A H' l ys:=by
 obtain⟨bs,h1,h2⟩:=h;exact⟨bs,s _ _ h1,h2.mono λb y _ _ q=>u q s⟩
abbrev iO:Hp->Addr->List Ky->Prop:=lu br
theorem kF(h:iO H b y)(s:az H H'):iO H' b y:=yp (A:=br) br.up h s
def bP(sb:Bool)(p:aL)(m:Nat):List Ky:=(List.range (m-1)).map λj=>(aT (kc sb p (j+1)),aT (gE sb p (j+1)))
def fj(CC:Addr)(H:Hp)(c:Addr)(p:aL):Prop:=∃dx lp lb la,H c=some (.ins CC dx [("picture",.ref lp),("text",.str (tx (aT p))),("beside_texts",.ref lb),("above_texts",.ref la)])/\H lp=some (.lst (ao p))/\lu br H lb (bP true p (p.headD []).length)/\lu br H la (bP false p p.length)
theorem fj.up(h:fj CC H c p)(s:az H H'):fj CC H' c p:=by
 obtain⟨k,a,b,e,h1,h2,j,g⟩:=h;exact⟨k,a,b,e,s _ _ h1,s _ _ h2,yp (A:=br) br.up j s,yp (A:=br) br.up g s⟩
def bQ(r:Nat×RV)(p:aL):List (List Ky):=match r.1 with
 |0=>if aT p=r.2.sg then[[]] else[]
 |1=>(bP true p (p.headD []).length).map λk=>[(k.1,r.2.o1),(k.2,r.2.o2)]
 |2=>(bP false p p.length).map λk=>[(k.1,r.2.o1),(k.2,r.2.o2)]
 |_=>[[(aT (turned p (di r.2.t.toNat)),r.2.o1)]]
def bW(T:Ky->Option Int):Int->List Ky->Option Int
 |c,[]=>some c
 |c,k::ks=>match T k with
  |none=>none
  |some v=>bW T (c+v) ks
def jm(H:Hp)(d:Addr)(T:Ky->Option Int):Prop:=∃kvs,H d=some (.dT kvs)/\∀k,dS kvs (kO k)=(T k).map V.int
theorem jm.up{d:Addr}(h:jm H d T)(s:az H H'):jm H' d T:=let ⟨kvs,h1,h2⟩:=h;⟨kvs,s _ _ h1,h2⟩
theorem jm.get{d:Addr}(h:jm H d T)(hb:br H b k):lM H d (.ref b) ((T k).map V.int):=by
 obtain⟨kvs,h1,h2⟩:=h;rw[<- h2 k];exact lM.t h1 hb
structure i'(p:aL)(r c:Nat):Prop where
 rc:rect p r c
 r0:0<r
 r6:r<=6
 c0:0<c
 c6:c<=6
theorem i'.small(h:i' p r c):eZ p:=eZ.of h.rc (by have:=h.r6;omega) (by have:=h.c6;omega)
theorem tm{ks:List Ky}{fs:List (Str×V)}(h:lu br H l ks)(ha:H a=some (.ins C dx fs)):lu br (aD H a o) l ks:=by
 obtain⟨bs,h1,h2⟩:=h;exact⟨bs,by rw[ar (λz=>by rw[z,ha]at h1;cases h1)];exact h1,h2.mono λb y _ _ q=>by
  have c:H b=some (.tup (Ft y)):=q;show aD H a o b=_;rw[ar (λz=>by rw[z,ha]at c;cases c)];exact c⟩
theorem cw{c:Prop}[Decidable c]{A B:Prop}(hA:c->A)(hB:¬ c->B):if c then A else B:=by
 by_cases h:c
 ·rw[q07 h];exact hA h
 ·rw[q06 h];exact hB h
abbrev fN:Stmt:=fY 28
inductive iU(K:W.Frag)(vs:List V)(H:Hp)(Q:VK)(_E:XK):Prop
 |mk (sb:Bool) (a:Addr) (p:aL) (r c m:Nat) (_:vs=[.ref a,.bl sb,.int (m:Int)]) (_:aQ K H a (ao p)) (_:i' p r c) (_:m=(if sb=true then c else r)) (_:∀l H',H l=none->lu br H' l (bP sb p m)->az H H'->Q (.ref l) H')
theorem ny:aG ["picture","side_by_side","many","texts","at","two"] ["picture","side_by_side","many"] (aq fN):=by walk_at "c"
theorem tK{sb:Bool}(h:i' p r c):eZ (kc sb p n)/\eZ (gE sb p n):=by
 have:=h.small;cases sb with
 |true=>
  refine⟨⟨?_,λx a=>?_⟩,⟨?_,λx a=>?_⟩⟩
  ·show(p.map _).length<=_;rw[KO];exact this.1
  ·obtain⟨y,b,rfl⟩:=Lx.mp a
   rw[Lq];exact Lj (Nat.min_le_right _ _) (this.2 y b)
  ·show(p.map _).length<=_;rw[KO];exact this.1
  ·obtain⟨y,b,rfl⟩:=Lx.mp a
   rw[Lr];exact Lj (Nat.sub_le _ _) (this.2 y b)
 |false=>
  refine⟨⟨?_,λx a=>?_⟩,⟨?_,λx a=>?_⟩⟩
  ·show(p.take n).length<=_;rw[Lq];exact Lj (Nat.min_le_right _ _) this.1
  ·exact this.2 x (q0H a)
  ·show(p.drop n).length<=_;rw[Lr];exact Lj (Nat.sub_le _ _) this.1
  ·exact this.2 x (q0I a)
theorem nI{f:Addr}(F:dG K "parted_texts" "parted_texts" fN f fd)(nb:NB mg)(yaA:↑dF 1 "parted" ["picture","side_by_side","at"] (rE K))(yab:↑dF 1 "shown" ["picture"] (dQ K)):↑bj 2 f fd ["picture","side_by_side","many"] (iU K):=by
 have sc:=ny;walk_at "f"
 ·obtain⟨sb,a,p,r,c,m,rfl,hS,g,T,q⟩:=h
  have:=g.r6;have:=g.c6;have:=g.r0;have:=g.c0;have m1:1<=m/\m<=6:=by rw[T];split<;>omega
  refine⟨_,(ae (q01 3 sc.nd (bI ad))
   (ae (bF PassesOwn.never rfl (lX rfl nb.range (bN (ac (al 2) ad))) (q02 4 sc.nd)
   (ae (q01 5 sc.nd (q00 yaA hr (ac (al 0) (ac (al 1) (ac (al 4) ad)))))
   (ag (bi (q03 (al 3) (ac (bD (ac (q00 yab hr (ac (aP aU (al 5) ai (λ_ _=>rfl)) ad)) (ac (q00 yab hr (ac (aP aU (al 5) ai (λ_ _=>rfl)) ad)) ad))) ad))))))
   (ag (aM (al 3))))),?_⟩
  symm;refine⟨Lc _,λl L=>h1 _ _ ?_⟩;clear h1;generalize z:aD H l _=H1;obtain⟨U,e1⟩:=gP L z;symm;rw[show((m:Int)-1).toNat=m-1 by omega];refine⟨by decide,⋯,⋯,?_⟩;refine cL (lo:=1) (n:=m-1) (λi σ k=>az H k/\i<=m-1/\(∃bs:List Addr,k l=some (.lst (bs.map V.ref))/\bp br k bs ((List.range i).map λj=>(aT (kc sb p (j+1)),aT (gE sb p (j+1)))))/\∃x y,σ=[some (V.ref a),some (V.bl sb),some (V.int (m:Int)),some (V.ref l),x,y]) ⟨U,Lc _,⟨[],e1,bp.nil⟩,_,_,rfl⟩ ?_ ?_
  ·rintro i σ k hi ⟨u,_,⟨bs,O,v⟩,x,y,rfl⟩
   symm;refine⟨sb,a,p,r,c,i+1,by push_cast;rw[Int.add_comm],u.seq hS,g.rc,⋯,⋯,by rw[<- T];omega,λt Z Y H2 ht hl1 hl2 hne et S R I=>h1 _ _ ?_⟩;clear h1;obtain⟨D,C⟩:=tK (sb:=sb) (n:=i+1) g;ext;have o:=I _ _ O;refine⟨.inl ⟨rfl,_,aQ.of o⟩,_,cR.of et,_,rfl,Z,kc sb p (i+1),rfl,S,D,_,cR.of et,_,rfl,Y,gE sb p (i+1),rfl,R,C,au b⁻¹,λB J=>?_⟩;generalize z:aD H2 B _=H3;obtain⟨G,(e3:br H3 B (aT (kc sb p (i+1)),aT (gE sb p (i+1))))⟩:=gP J z;have e:=G _ _ o;have M:=v.1;rw[KO,q0J]at M;refine⟨_,e,by rw[KO];exact bc ⋯,bE ((u.trans I).trans G) L,⋯,bs++[B],by rw[af,K2];rfl,?_⟩;rw[q0M,K2];exact(v.mono λb y _ _ h=>((h.up I).up G).put e).snoc (e3.put e)
  ·rintro σ k ⟨u,_,⟨bs,O,v⟩,x,y,rfl⟩
   refine h1 _ _ ?_;ext;exact q l k L ⟨bs,O,v⟩ u
abbrev gD:Stmt:=jp 27 0
def Dg(K:W.Frag)(C:Addr):Prop:=aC K C "picture"/\aC K C "text"/\aC K C "beside_texts"/\aC K C "above_texts"
inductive fC(K:W.Frag)(vs:List V)(H:Hp)(Q:VK)(_E:XK):Prop
 |mk (a C dx b:Addr) (p:aL) (r c:Nat) (_:vs=[.ref a,.ref b]) (_:H a=some (.ins C dx [])) (_:jA K C) (_:Dg K C) (_:H b=some (.lst (ao p))) (_:i' p r c) (_:∀H',fj C H' a p->bv a H H'->Q .non H')
theorem sI:aG ["self","picture"] ["self","picture"] (aq gD):=by walk_at "c"
theorem tF{f:Addr}(F:dG K "__init__" "Cuts.__init__" gD f fd)(nb:NB mg)(yab:↑dF 1 "shown" ["picture"] (dQ K))(yav:↑dF 2 "parted_texts" ["picture","side_by_side","many"] (iU K)):↑bj 3 f fd ["self","picture"] (fC K):=by
 have sc:=sI;walk_at "f"
 ·obtain⟨a,C,g,b,p,r,c,rfl,T,J,⟨n1,n2,n3,n4⟩,u,k,q⟩:=h
  refine⟨_,(ae (c8 (al 0) (c5 cy rfl nb.list eU (ac (al 1) ad)) rfl)
   (ae (c8 (al 0) (q00 yab hr (ac (al 1) ad)) rfl)
   (ae (c8 (al 0) (q00 yav hr (ac (al 1) (ac nj (ac (aE bw rfl nb.len ba (ac (aP aX (al 1) ai (λ_ _=>rfl)) ad)) ad)))) rfl)
   (ag (c8 (al 0) (q00 yav hr (ac (al 1) (ac nj (ac (aE aZ rfl nb.len ba (ac (al 1) ad)) ad)))) rfl))))),?_⟩
  symm;refine⟨_,.inl (aQ.of u),λl D=>⟨C,g,_,aj D _ _ T,J,n1,by decide,h1 _ _ ?_⟩⟩;clear h1;have m:l≠a:=λe=>by rw[e,T]at D;cases D
  have n:b≠a:=λe=>by rw[e,T]at u;cases u
  have O:bv a H (aD (aD H l (.lst (ao p))) a (.ins C g [("picture",.ref l)])):=(bv.of (aj D)).put;have e1:aD (aD H l (.lst (ao p))) a (.ins C g [("picture",.ref l)]) a=some (.ins C g [("picture",.ref l)]):=af;have l1:aD (aD H l (.lst (ao p))) a (.ins C g [("picture",.ref l)]) l=some (.lst (ao p)):=by rw[ar m,af]
  change Ap _ _ _ _ (aD (aD H l (.lst (ao p))) a (.ins C g [("picture",.ref l)]));generalize aD (aD H l (.lst (ao p))) a (.ins C g [("picture",.ref l)])=H1 at O e1 l1 ⊢;have b1:=O _ _ n u;have d1:¬ (("picture":Str)="text"):=by decide +kernel
  have d2:¬ (("picture":Str)="beside_texts"):=by decide +kernel
  have d3:¬ (("picture":Str)="above_texts"):=by decide +kernel
  have d4:¬ (("text":Str)="beside_texts"):=by decide +kernel
  have d5:¬ (("text":Str)="above_texts"):=by decide +kernel
  have d6:¬ (("beside_texts":Str)="above_texts"):=by decide +kernel
  have Z:cM "text" (V.str (tx (aT p))) [(("picture":Str),V.ref l)]=[(("picture":Str),V.ref l),(("text":Str),V.str (tx (aT p)))]:=by simp only[cM,q06 d1]
  symm;refine⟨b,p,rfl,b1,k.small,C,g,_,e1,J,n2,by simp,?_⟩;rw[Z];refine h1 _ _ ?_;clear h1;have M:bv a H (aD H1 a (.ins C g [("picture",.ref l),("text",.str (tx (aT p)))])):=O.put;have I:aD H1 a (.ins C g [("picture",.ref l),("text",.str (tx (aT p)))]) a=some (.ins C g [("picture",.ref l),("text",.str (tx (aT p)))]):=af;have l2:aD H1 a (.ins C g [("picture",.ref l),("text",.str (tx (aT p)))]) l=some (.lst (ao p)):=by rw[ar m];exact l1
  generalize aD H1 a (.ins C g [("picture",.ref l),("text",.str (tx (aT p)))])=H2 at M I l2 ⊢;have b2:=M _ _ n u;have:=k.r6;have:=k.c6;obtain⟨S,v⟩:=e_ k.rc k.r0;symm;refine⟨_,aQ.of b2,_,(show i6 _ ((0:Nat):Int)=_ from bo (bz S)),_,rfl,by rw[ax];exact au ⋯,?_⟩;rw[ax,v];refine⟨true,b,p,r,c,c,rfl,aQ.of b2,k,rfl,λj z x eb B=>⟨C,g,_,B _ _ I,J,n3,by simp,?_⟩⟩;have hbl:j≠a:=λe=>by rw[e,I]at x;cases x
  have Y:cM "beside_texts" (V.ref j) [(("picture":Str),V.ref l),(("text":Str),V.str (tx (aT p)))]=[(("picture":Str),V.ref l),(("text":Str),V.str (tx (aT p))),(("beside_texts":Str),V.ref j)]:=by simp only[cM,q06 d2,q06 d4]
  rw[Y];refine h1 _ _ ?_;clear h1;have L:bv a H (aD z a h⁻¹):=(M.then B).put;have G:aD z a h⁻¹ a=some h⁻¹:=af;have l3:aD z a h⁻¹ l=some (.lst (ao p)):=by rw[ar m];exact B _ _ l2
  have y:lu br (aD z a h⁻¹) j (bP true p c):=tm eb (B _ _ I);generalize aD z a h⁻¹=H4 at L G l3 y ⊢;have b3:=L _ _ n u;ext;refine⟨_,aQ.of b3,?_⟩;rw[ak,k.rc.1];refine⟨false,b,p,r,c,r,rfl,aQ.of b3,k,rfl,λR H5 hla5 ea o=>⟨C,g,_,o _ _ G,J,n4,by simp,?_⟩⟩;have U:cM "above_texts" (V.ref R) [(("picture":Str),V.ref l),(("text":Str),V.str (tx (aT p))),(("beside_texts":Str),V.ref j)]=[(("picture":Str),V.ref l),(("text":Str),V.str (tx (aT p))),(("beside_texts":Str),V.ref j),(("above_texts":Str),V.ref R)]:=by simp only[cM,q06 d3,q06 d5,q06 d6]
  rw[U];refine q _ ⟨g,l,j,R,af,by rw[ar m];exact o _ _ l3,?_,?_⟩ ((L.then o).put)
  ·rw[aO k.rc k.r0]
   exact tm (yp (A:=br) br.up y o) (o _ _ G)
  ·rw[k.rc.1]
   exact tm ea (o _ _ G)
abbrev eQ:Stmt:=jp 27 1
inductive fP(CC:Addr)(vs:List V)(H:Hp)(Q:VK)(_E:XK):Prop
 |mk (a:Addr) (p:aL) (r c t:Nat) (_:vs=[.ref a,.int (t:Int)]) (_:fj CC H a p) (_:i' p r c) (_:t<8) (_:∀H',az H H'->Q (.str (tx (aT (turned p t)))) H')
theorem qa:aG ["self","t"] ["self","t"] (aq eQ):=by walk_at "c"
theorem i'.turned(h:i' p r c)(t:Nat):∃r' c',i' (turned p t) r' c':=by
 have:=cC h.rc h.r0 h.c0 t;have h1:=h.r0;have h2:=h.c0;have h3:=h.r6;have h4:=h.c6;exact⟨_,_,this,by split<;>omega,by split<;>omega,by split<;>omega,by split<;>omega⟩
theorem pW{f:Addr}(F:dG K "turned_text" "Cuts.turned_text" eQ f fd)(nb:NB mg)(cl:jA K CC)(na:Dg K CC)(zka:↑dF 3 "turned" ["picture","t"] (jK K))(yab:↑dF 1 "shown" ["picture"] (dQ K)):↑bj 4 f fd ["self","t"] (fP CC):=by
 have sc:=qa;walk_at "f"
 ·obtain⟨a,p,r,c,t,rfl,⟨u,j,lb,la,n,m,_,_⟩,b,k,q⟩:=h
  refine⟨_,(ag (aM (q00 yab hr (ac (q00 zka hr (ac (cq (al 0) rfl) (ac (al 1) ad))) ad)))),?_⟩;have:=b.r6;have:=b.c6;obtain⟨r',c',e⟩:=b.turned t;ext;refine⟨CC,u,_,n,cl,na.1,_,rfl,j,p,r,c,t,rfl,aQ.of m,b.rc,b.r0,b.c0,⋯,⋯,k,λl H1 hl o g=>⟨l,turned p t,rfl,o,e.small,q H1 g⟩⟩
def oF(H0 H:Hp)(b:Addr)(y:List Ky):Prop:=H0 b=none/\iO H b y
theorem oF.up{H0:Hp}(h:oF H0 H b y)(s:az H H'):oF H0 H' b y:=⟨h.1,kF h.2 s⟩
inductive dH(CC C:Addr)(t:Nat)(vs:List V)(H:Hp)(Q:VK)(_E:XK):Prop
 |mk (a dx lp cu:Addr) (v:RV) (p:aL) (r c:Nat) (_:vs=[.ref a,.ref cu]) (_:H a=some (.ins C dx (tM t lp v))) (_:fj CC H cu p) (_:i' p r c) (_:0<=v.t) (_:v.t<=7) (_:∀l H',H l=none->lu (oF H) H' l (bQ (t,v) p)->az H H'->Q (.ref l) H')
abbrev gt:Stmt:=jp 38 4
theorem uw:aG ["self","cuts"] ["self","cuts"] (aq gt):=by walk_at "c"
theorem sr{f:Addr}(F:dG K "ways" "CellRule.ways" gt f fd)(cc:jA K CC)(nc:Dg K CC)(cl:jA K C)(na:aC K C "sign"):↑bj 1 f fd ["self","cuts"] (dH CC C 0):=by
 have sc:=uw;walk_at "f"
 ·obtain⟨a,m,lp,cu,v,p,r,c,rfl,l,⟨n,b,l2,l3,k,_,_,_⟩,hp,t0,t7,q⟩:=h
  refine⟨_,(ag (aM (A9 (aN dz (cq (al 1) rfl) (cq (al 0) rfl) (aR _)) (bI (ac (bI ad) ad)) (bI ad)))),?_⟩;ext;refine⟨CC,n,_,k,cc,nc.2.1,_,rfl,C,m,_,l,cl,na,_,rfl,rfl,?_⟩;refine cw (λe=>?_) (λe=>?_)
  ·rw[show bQ (0,v) p=[[]] from q07 (eD (V.str.inj e))]at q
   exact⟨Lc _,λj g=>⟨au b⁻¹,λb h1=>q b _ ((aj g).free h1) ⟨[j],af,bp.one ⟨g,[],aj h1 _ _ af,bp.nil⟩⟩ ((aj g).trans (aj h1))⟩⟩
  ·rw[show bQ (0,v) p=[] from q06 λh=>e (by rw[h])]at q
   exact⟨Lc _,λb h1=>q b _ h1 ⟨[],af,bp.nil⟩ (aj h1)⟩
abbrev eJ:Stmt:=jp 39 4
theorem oB:aG ["self","cuts"] ["self","cuts"] (aq eJ):=by walk_at "c"
theorem pM{f:Addr}(F:dG K "ways" "BesideRule.ways" eJ f fd)(cc:jA K CC)(nc:Dg K CC)(cl:jA K C)(na:aC K C "one"/\aC K C "other"):↑bj 1 f fd ["self","cuts"] (dH CC C 1):=by
 have sc:=oB;walk_at "f"
 ·obtain⟨a,Z,lp,cu,v,p,r,c,rfl,ha,⟨dc,l1,l2,l3,hc,_,⟨bs,Y,R⟩,_⟩,L,t0,t7,q⟩:=h
  have hu:=hr.units;refine⟨_,(ag (aM (cH ["first","second"] [0] rfl (bY.of f⁻¹) f⁻¹ (bR (cq (al 1) rfl))
    (λ_ _ _ _=>(lF (K:=K) (n:=2) rfl rfl (aV (ay (i:=0) (by show(["first","second","self"]:List Str).Nodup;decide +kernel) rfl (Or.inl rfl)) (aV (ay (i:=1) (by show(["first","second","self"]:List Str).Nodup;decide +kernel) rfl (Or.inl rfl)) du)))) (λ_ _ _ _=>cJ) (λ_ _ _ _=>(bI (ac (bD (ac (al 0) (ac (om (K:=K) rfl (al 2) rfl) ad))) (ac (bD (ac (al 1) (ac (om (K:=K) rfl (al 2) rfl) ad))) ad))))))),?_⟩
  ext;refine⟨CC,dc,_,hc,cc,nc.2.2.1,_,rfl,_,rfl,⟨_,aQ.of Y⟩,?_⟩;have u:(bs.zip (bP true p (p.headD []).length)).length=(bQ (1,v) p).length:=by
   show _=((bP true p (p.headD []).length).map _).length;rw[q0N,R.1,KO,Nat.min_self]
  have hpl:(bP true p (p.headD []).length).length<=6:=by
   unfold bP;rw[KO,q0J,aO L.rc L.r0];have:=L.c6;omega
  refine oM (oF H) oF.up (as:=bs.zip (bP true p (p.headD []).length)) (emb:=λx=>V.ref x.1) (ys:=bQ (1,v) p) u (λσ=>∃x y,σ=[x,y,some (V.ref a)]) ⟨_,_,rfl⟩ (λS s=>by rw[<- R.zip];exact aQ.of (s _ _ Y)) (by rw[q0N];omega) ?_ ?_
  ·rintro i ⟨b,k⟩ y hx hy σ S N1 N0 ⟨x0,y0,rfl⟩ e k1
   obtain⟨M,O⟩:=R.at hx;have M:(bP true p (p.headD []).length)[i]?=some k:=M;have m:((bP true p (p.headD []).length).map λk=>[(k.1,v.o1),(k.2,v.o2)])[i]?=some y:=hy;rw[KQ,M]at m;cases m;ext;have a1:=e _ _ ha;refine⟨_,cR.of (e _ _ O),rfl,_,_,rfl,_,_,rfl,rfl,C,Z,_,a1,cl,na.1,_,rfl,au b⁻¹,λB J=>?_⟩;generalize G:aD S B _=H1;obtain⟨U,(e1:br H1 B (k.1,v.o1))⟩:=gP J G;refine⟨C,Z,_,U _ _ a1,cl,na.2,_,rfl,au b⁻¹,λz I=>⟨au b⁻¹,λl j=>?_⟩⟩;generalize G:aD H1 z _=H2 at j ⊢;obtain⟨T,(e2:br H2 z (k.2,v.o2))⟩:=gP I G;have D:=aj (o:=.lst [V.ref B,V.ref z]) j;have g:=U.trans T;exact k1 l _ _ ⟨e.free (g.free j),[B,z],af,bp.two ((e1.up T).up D) (e2.up D)⟩ (e.trans (g.trans D)) (g.trans D) ⟨_,_,rfl⟩
  ·intro ws S e hW l j
   exact q l _ (e.free j) ⟨ws,af,hW.mono λb y _ _ h=>oF.up h (aj j)⟩ (e.trans (aj j))
abbrev fw:Stmt:=jp 40 4
theorem qP:aG ["self","cuts"] ["self","cuts"] (aq fw):=by walk_at "c"
theorem qz{f:Addr}(F:dG K "ways" "AboveRule.ways" fw f fd)(cc:jA K CC)(nc:Dg K CC)(cl:jA K C)(na:aC K C "one"/\aC K C "other"):↑bj 1 f fd ["self","cuts"] (dH CC C 2):=by
 have sc:=qP;walk_at "f"
 ·obtain⟨a,Z,lp,cu,v,p,r,c,rfl,ha,⟨dc,l1,l2,l3,hc,_,_,⟨bs,Y,O⟩⟩,U,t0,t7,q⟩:=h
  have hu:=hr.units;refine⟨_,(ag (aM (cH ["first","second"] [0] rfl (bY.of f⁻¹) f⁻¹ (bR (cq (al 1) rfl))
    (λ_ _ _ _=>(lF (K:=K) (n:=2) rfl rfl (aV (ay (i:=0) (by show(["first","second","self"]:List Str).Nodup;decide +kernel) rfl (Or.inl rfl)) (aV (ay (i:=1) (by show(["first","second","self"]:List Str).Nodup;decide +kernel) rfl (Or.inl rfl)) du)))) (λ_ _ _ _=>cJ) (λ_ _ _ _=>(bI (ac (bD (ac (al 0) (ac (om (K:=K) rfl (al 2) rfl) ad))) (ac (bD (ac (al 1) (ac (om (K:=K) rfl (al 2) rfl) ad))) ad))))))),?_⟩
  ext;refine⟨CC,dc,_,hc,cc,nc.2.2.2,_,rfl,_,rfl,⟨_,aQ.of Y⟩,?_⟩;have u:(bs.zip (bP false p p.length)).length=(bQ (2,v) p).length:=by
   show _=((bP false p p.length).map _).length;rw[q0N,O.1,KO,Nat.min_self]
  have hpl:(bP false p p.length).length<=6:=by
   unfold bP;rw[KO,q0J,U.rc.1];have:=U.r6;omega
  refine oM (oF H) oF.up (as:=bs.zip (bP false p p.length)) (emb:=λx=>V.ref x.1) (ys:=bQ (2,v) p) u (λσ=>∃x y,σ=[x,y,some (V.ref a)]) ⟨_,_,rfl⟩ (λR s=>by rw[<- O.zip];exact aQ.of (s _ _ Y)) (by rw[q0N];omega) ?_ ?_
  ·rintro i ⟨b,k⟩ y hx hy σ R N1 N0 ⟨x0,y0,rfl⟩ e k1
   obtain⟨L,M⟩:=O.at hx;have L:(bP false p p.length)[i]?=some k:=L;have m:((bP false p p.length).map λk=>[(k.1,v.o1),(k.2,v.o2)])[i]?=some y:=hy;rw[KQ,L]at m;cases m;ext;have a1:=e _ _ ha;refine⟨_,cR.of (e _ _ M),rfl,_,_,rfl,_,_,rfl,rfl,C,Z,_,a1,cl,na.1,_,rfl,au b⁻¹,λB J=>?_⟩;generalize G:aD R B _=H1;obtain⟨T,(e1:br H1 B (k.1,v.o1))⟩:=gP J G;refine⟨C,Z,_,T _ _ a1,cl,na.2,_,rfl,au b⁻¹,λz I=>⟨au b⁻¹,λl j=>?_⟩⟩;generalize G:aD H1 z _=H2 at j ⊢;obtain⟨S,(e2:br H2 z (k.2,v.o2))⟩:=gP I G;have D:=aj (o:=.lst [V.ref B,V.ref z]) j;have g:=T.trans S;exact k1 l _ _ ⟨e.free (g.free j),[B,z],af,bp.two ((e1.up S).up D) (e2.up D)⟩ (e.trans (g.trans D)) (g.trans D) ⟨_,_,rfl⟩
  ·intro ws R e hW l j
   exact q l _ (e.free j) ⟨ws,af,hW.mono λb y _ _ h=>oF.up h (aj j)⟩ (e.trans (aj j))
abbrev gi:Stmt:=jp 41 4
theorem r9:aG ["self","cuts"] ["self","cuts"] (aq gi):=by walk_at "c"
theorem sG{f:Addr}(F:dG K "ways" "TurnRule.ways" gi f fd)(cc:jn K CC)(cl:jA K C)(na:aC K C "part"/\aC K C "turning")(zMa:↑hZ 4 CC "turned_text" ["self","t"] (fP CC))(ya7:↑dF 1 "back" ["t"] yb):↑bj 5 f fd ["self","cuts"] (dH CC C 3):=by
 have sc:=r9;walk_at "f"
 ·obtain⟨a,G,lp,R,v,p,r,c,rfl,B,D,J,I,t7,q⟩:=h
  refine⟨_,(ag (aM (bI (ac (bI (ac (bD (ac (jJ zMa (hr.mono b⁻¹) aK (al 1) (ac (q00 ya7 hr (ac (cq (al 0) rfl) ad)) ad)) (ac (cq (al 0) rfl) ad))) ad)) ad)))),?_⟩;ext;obtain⟨O,j,z,l3,L,hr1⟩:=id D;refine⟨O,_,L,rfl,C,G,_,B,cl,na.2,_,rfl,v.t.toNat,?_,⋯,?_⟩
  ·rw[LH I]
  have y:di v.t.toNat<8:=(by decide:∀t,t<8->di t<8) _ ⋯;refine⟨R,p,r,c,di v.t.toNat,rfl,D,J,y,λH1 g=>⟨C,G,_,g _ _ B,cl,na.1,_,rfl,au b⁻¹,λl x=>⟨au b⁻¹,λj e=>⟨au b⁻¹,λz b=>?_⟩⟩⟩⟩;generalize k:aD H1 l _=H2 at e b ⊢;obtain⟨u,(e2:br H2 l (aT (turned p (di v.t.toNat)),v.o1))⟩:=gP x k;generalize k:aD H2 j _=H3 at b ⊢;obtain⟨n,M⟩:=gP e k;have m:=aj (o:=.lst [V.ref j]) b;exact q z _ (g.free (u.free (n.free b))) ⟨[j],af,bp.one ⟨g.free (u.free e),[l],m _ _ M,bp.one ((e2.up n).up m)⟩⟩ (g.trans (u.trans (n.trans m)))
def qf(R:RC)(CC:Addr):List (Addr×Sp):=[(R.cc,dH CC R.cc 0),(R.cb,dH CC R.cb 1),(R.ca,dH CC R.ca 2),(R.ct,dH CC R.ct 3)]
theorem AF{R:RC}{CC:Addr}{k cu:Addr}{Q:VK}(hk:k<4)(ra:fV R H k a v)(hC:fj CC H cu p)(hp:i' p r c)(t0:0<=v.t)(t7:v.t<=7)(q:∀l H',H l=none->lu (oF H) H' l (bQ (k,v) p)->az H H'->Q (.ref l) H') :
  ∃o∈qf R CC,∃dx fs,H a=some (.ins o.1 dx fs)/\fs.lookup ("ways":Str)=none/\o.2 [.ref a,.ref cu] H Q E:=by
 obtain⟨dx,l,h1,h2⟩:=ra;rcases eM hk with rfl | rfl | rfl | rfl
 ·exact⟨(R.cc,dH CC R.cc 0),by simp[qf],dx,_,h1,rfl,a,dx,l,cu,v,p,r,c,rfl,h1,hC,hp,t0,t7,q⟩
 ·exact⟨(R.cb,dH CC R.cb 1),by simp[qf],dx,_,h1,rfl,a,dx,l,cu,v,p,r,c,rfl,h1,hC,hp,t0,t7,q⟩
 ·exact⟨(R.ca,dH CC R.ca 2),by simp[qf],dx,_,h1,rfl,a,dx,l,cu,v,p,r,c,rfl,h1,hC,hp,t0,t7,q⟩
 ·exact⟨(R.ct,dH CC R.ct 3),by simp[qf],dx,_,h1,rfl,a,dx,l,cu,v,p,r,c,rfl,h1,hC,hp,t0,t7,q⟩
abbrev mB:Stmt:=fY 29
def j8:Option Int->V
 |some c=>.int c
 |none=>.non
inductive oG(R:RC)(vs:List V)(H:Hp)(Q:VK)(_E:XK):Prop
 |mk (a lw d:Addr) (k:Nat) (v:RV) (way:List Ky) (T:Ky->Option Int) (_:vs=[.ref a,.ref lw,.ref d]) (_:fV R H k a v) (_:iO H lw way) (_:jm H d T) (_:Q (j8 (bW T v.c way)) H)
theorem xh:aG ["rule","way","told","cost","key"] ["rule","way","told"] (aq mB):=by walk_at "c"
theorem xU{f:Addr}(F:dG K "cost_by" "cost_by" mB f fd)(nb:NB mg)(rk:ki K R):↑bj 1 f fd ["rule","way","told"] (oG R):=by
 have sc:=xh;walk_at "f"
 ·obtain⟨a,J,d,k,v,e,T,rfl,⟨rdx,I,n,_⟩,⟨bs,C,D⟩,O,q⟩:=h
  have B:=hr.units;refine⟨_,(ae (q01 3 sc.nd (cq (al 0) rfl))
   (ae (bF PassesOwn.never rfl (bR (al 1)) (q02 4 sc.nd)
   (ae (bL (mD (jG (Lv (LA (by decide:1<=64) _) B) (al 4) (al 2)) (by with_unfolding_all rfl))
   (ag (aM cN))
   aW)
   (ag (q01 3 sc.nd (aw (bC.m0 bU) (al 3) (lD (Lv (LA (by decide:1<=64) _) B) (al 2) (al 4) (λ_ _=>rfl)))))))
   (ag (aM (al 3))))),?_⟩
  symm;refine⟨_,_,_,n,(rk.icls k).cl,(rk.name k).2.1,_,(jE I v k).2.1,h1 _ _ ?_⟩;grind;refine⟨⟨_,aQ.of C⟩,?_⟩;refine b5 (xs:=bs.map V.ref) (λi σ m=>m=H/\i<=e.length/\∃(c:Int) (x:Option V),bW T v.c e=bW T c (e.drop i)/\σ=[some (V.ref a),some (V.ref J),some (V.ref d),some (V.int c),x]) ⟨rfl,Lc _,v.c,_,rfl,rfl⟩ (λi σ m _ h=>by rw[h.1];exact aQ.of C) ?_ ?_
  ·rintro i x σ m z ⟨rfl,L,c,G,j,rfl⟩
   rw[KQ]at z;obtain⟨b,y,rfl⟩:=Lf.mp z;obtain⟨g,p,o⟩:=D.get y;have lU:=(KM.mp p).1;have M:e.drop i=g::e.drop (i+1):=by
    rw[q0T lU];rw[KL lU]at p;cases p;rfl
   rw[M,show bW T c (g::e.drop (i+1))=(match T g with | none=>none | some v=>bW T (c+v) (e.drop (i+1))) from rfl]at j;have r:=O.get o;symm;refine⟨_,r,?_⟩;cases l:T g with
   |none=>
    rw[l]at j;rw[q07 (by rfl)];rw[show bW T v.c e=none from j]at q;exact q
   |some u=>
    rw[l]at j r;rw[q06 (by simp)];refine h1 _ _ ?_;clear h1;ext;exact⟨_,r,_,rfl,lU,_,j,rfl⟩
  ·rintro σ m ⟨rfl,L,c,G,j,rfl⟩
   refine h1 _ _ ?_;ext;rw[KO,D.1,List.drop_length]at j;rw[j]at q;exact q
def xF(T:Ky->Option Int)(p:aL)(n:Nat)(r:Nat×RV):List (Int×Nat×List Ky):=(bQ r p).filterMap λw=>(bW T r.2.c w).map λc=>(c,n,w)
def cE(T:Ky->Option Int)(rs:Yaa)(p:aL)(n:Nat):List (Int×Nat×List Ky):=match rs[n]? with
 |none=>[]
 |some r=>xF T p n r
def tJ(H:Hp)(b:Addr)(y:Int×Nat×List Ky):Prop:=∃lw,H b=some (.tup [.int y.1,.int (y.2.1:Int),.ref lw])/\iO H lw y.2.2
def yC(H0 H:Hp)(b:Addr)(y:Int×Nat×List Ky):Prop:=∃lw,H0 lw=none/\H b=some (.tup [.int y.1,.int (y.2.1:Int),.ref lw])/\iO H lw y.2.2
theorem yC.old{H0:Hp}(h:yC H0 H b y):tJ H b y:=let ⟨lw,_,h1,h2⟩:=h;⟨lw,h1,h2⟩
def jd(l:Addr)(H0 H:Hp)(b:Addr)(y:Int×Nat×List Ky):Prop:=∃lw,lw≠l/\H0 lw=none/\H b=some (.tup [.int y.1,.int (y.2.1:Int),.ref lw])/\iO H lw y.2.2
theorem jd.up{H0:Hp}(h:jd l H0 H b y)(s:az H H'):jd l H0 H' b y:=let ⟨lw,h0,hn,h1,h2⟩:=h;⟨lw,h0,hn,s _ _ h1,kF h2 s⟩
theorem tR(h:iO H a y)(hl:H l=some (.lst xs))(ne:a≠l):iO (aD H l o) a y:=by
 obtain⟨bs,h1,h2⟩:=h;exact⟨bs,by rw[ar ne];exact h1,h2.mono λb k _ _ q=>q.put hl⟩
theorem jd.put{H0:Hp}(h:jd l H0 H b y)(hl:H l=some (.lst xs)):jd l H0 (aD H l o) b y:=by
 obtain⟨c,a,e,h1,h2⟩:=h;exact⟨c,a,e,by rw[ar (λz=>by rw[z,hl]at h1;cases h1)];exact h1,tR h2 hl a⟩
abbrev o0:Stmt:=fY 30
inductive lZ(R:RC)(CG CC:Addr)(vs:List V)(H:Hp)(Q:VK)(_E:XK):Prop
 |mk (g dx ln cu d:Addr) (sg st:LO) (as:LR) (rs:Yaa) (ns:LO) (p:aL) (r c:Nat) (T:Ky->Option Int) (_:vs=[.ref g,.ref ln,.ref cu,.ref d]) (_:cT R H CG dx g sg st as rs) (_:(∀r∈rs,rO r)) (_:H ln=some (.lst (wj ns))) (_:(∀n∈ns,n<rs.length)) (_:ns.length<=100) (_:fj CC H cu p) (_:i' p r c) (_:jm H d T) (_:∀l H',H l=none->lu (yC H) H' l (ns.flatMap (cE T rs p))->az H H'->Q (.ref l) H')
theorem yT:aG ["grammar","numbers","cuts","told","found","number","rule","way","cost"] ["grammar","numbers","cuts","told"] (aq o0):=by walk_at "c"
theorem rS{r:Nat×RV}(h4:r.1<4)(hp:i' p a c):(bQ r p).length<=6:=by
 obtain⟨k,v⟩:=r;have:=hp.r6;have:=hp.c6;rcases eM h4 with h | h | h | h<;>(simp only at h;subst h)
 ·show(if aT p=v.sg then[[]] else[]).length<=6
  split<;>simp
 ·show((bP true p (p.headD []).length).map _).length<=6
  unfold bP;rw[KO,KO,q0J,aO hp.rc hp.r0];omega
 ·show((bP false p p.length).map _).length<=6
  unfold bP;rw[KO,KO,q0J,hp.rc.1];omega
 ·show([[_]]:List (List Ky)).length<=6
  simp
theorem yP{α β:Type}(f:α->List β){xs:List α}{i:Nat}{x:α}(h:xs[i]?=some x):(xs.take (i+1)).flatMap f=(xs.take i).flatMap f++f x:=by
 rw[q0E,h,List.flatMap_append];simp
theorem zA{f:Addr}(F:dG K "coming" "coming" o0 f fd)(nb:NB mg)(yae:↑hZ 1 CG "rule" ["self","k"] (dR R CG))(ya4:↑v3 5 "ways" (qf R CC))(yaM:↑dF 1 "cost_by" ["rule","way","told"] (oG R)):↑bj 6 f fd ["grammar","numbers","cuts","told"] (lZ R CG CC):=by
 have sc:=yT;walk_at "f"
 ·obtain⟨g,dx,ln,cu,d,sg,st,as,M,ns,p,r,c,T,rfl,hG,hg,b0,c0,hn100,hC,hp,hT,q⟩:=h
  have hu:=hr.units;refine⟨_,(ae (q01 4 sc.nd (bI ad))
   (ae (bF PassesOwn.never rfl (bR (al 1)) (q02 5 sc.nd)
   (ae (q01 6 sc.nd (jJ yae (hr.mono b⁻¹) aK (al 0) (ac (al 5) ad)))
   (ag (bF PassesOwn.never rfl (bR (Dm ya4 (hr.mono b⁻¹) aK (al 6) (ac (al 2) ad))) (q02 7 sc.nd)
   (ae (q01 8 sc.nd (q00 yaM hr (ac (al 6) (ac (al 7) (ac (al 3) ad)))))
   (ag (bL (aN r_ (al 8) cN (aR _))
   (ag (bi (q03 (al 4) (ac (bD (ac (al 8) (ac (al 5) (ac (al 7) ad)))) ad))))
   aW)))))))
   (ag (aM (al 4))))),?_⟩
  symm;refine⟨Lc _,λl hl=>h1 _ _ ?_⟩;clear h1;generalize z0:aD H l _=H1;obtain⟨s1,e1⟩:=gP hl z0;symm;refine⟨⟨_,aQ.of (s1 _ _ b0)⟩,?_⟩;refine b5 (xs:=wj ns) (λi σ Z=>az H Z/\i<=ns.length/\(∃bs:List Addr,Z l=some (.lst (bs.map V.ref))/\bp (jd l H) Z bs ((ns.take i).flatMap (cE T M p))/\bs.length<=6*i)/\∃x1 x2 x3 x4,σ=[some (V.ref g),some (V.ref ln),some (V.ref cu),some (V.ref d),some (V.ref l),x1,x2,x3,x4]) ⟨s1,Lc _,⟨[],e1,bp.nil,Lc _⟩,_,_,_,_,rfl⟩ (λi σ Z _ h=>aQ.of (h.1 _ _ b0)) ?_ ?_
  ·rintro i x σ Z hx ⟨sm,_,⟨bs,Y,hA,c1⟩,x1,x2,x3,x4,rfl⟩
   rw[wj,KQ]at hx;obtain⟨n,hn,rfl⟩:=Lf.mp hx;have hi:=(KM.mp hn).1;have a7:=c0 n (KR hn);obtain⟨k,D⟩:∃k,M[n]?=some k:=⟨_,KL a7⟩;have C:=hg k (KR D);have b4:=hG.up sm;obtain⟨lk,pn,t0,ha,hkk,a4,hN,hmm⟩:=id b4;obtain⟨b,U⟩:∃b,as[n]?=some b:=⟨_,KL (by rw[a4.1];exact a7)⟩;have b8:=a4.2 n b k U D;rw[yP _ hn,show cE T M p n=xF T p n k by unfold cE;rw[D]];symm;refine⟨dx,_,ha,rfl,g,dx,sg,st,as,M,n,b,rfl,b4,U,h1 _ _ ?_⟩;clear h1;ext;refine AF C.k4 b8 (hC.up sm) hp C.good.t0 C.good.t7 λlw H2 a9 hW s2=>?_;obtain⟨ws,a2,b3⟩:=hW;have hwl:=rS C.k4 hp;refine⟨lw,rfl,⟨_,aQ.of a2⟩,?_⟩;have a0:=sm.trans s2;have hT2:=hT.up a0;have a6:fV R H k.1 b k.2:=let ⟨_,_,_,_,_,hrs0,_,_⟩:=hG;hrs0.2 n b k U D
   have c2:=s2 _ _ Y;have a8:lw≠l:=λe=>by rw[e,Y]at a9;cases a9
   have h0:bp (jd l H) H2 bs ((ns.take i).flatMap (cE T M p)++((bQ k p).take 0).filterMap λw=>(bW T k.2.c w).map λc=>(c,n,w)):=by
    show bp (jd l H) H2 bs ((ns.take i).flatMap (cE T M p)++[]);rw[Lm];exact hA.mono λb y _ _ h=>h.up s2
   refine b5 (xs:=ws.map V.ref) (λj σ J=>az H J/\J lw=some (.lst (ws.map V.ref))/\bp iO J ws (bQ k p)/\(∀a∈ws,a≠l/\H a=none)/\j<=ws.length/\(∃bs:List Addr,J l=some (.lst (bs.map V.ref))/\bp (jd l H) J bs ((ns.take i).flatMap (cE T M p)++((bQ k p).take j).filterMap λw=>(bW T k.2.c w).map λc=>(c,n,w))/\bs.length<=6*i+j)/\∃x1 x2,σ=[some (V.ref g),some (V.ref ln),some (V.ref cu),some (V.ref d),some (V.ref l),some (V.int (n:Int)),some (V.ref b),x1,x2])
    ⟨a0,a2,b3.mono λ_ _ _ _ h=>h.2,λa ha=>?_,Lc _,⟨bs,c2,h0,⋯⟩,_,_,rfl⟩ (λj σ J _ h=>aQ.of h.2.1) ?_ ?_
   ·obtain⟨j,hj⟩:=List.mem_iff_getElem?.mp ha
    obtain⟨y,_,hy⟩:=b3.get hj;exact⟨λe=>(by have:=hy.1;rw[e,Y]at this;cases this),sm.free hy.1⟩
   ·rintro j x σ J hx ⟨o,S,m,v,_,⟨I,z,B,b1⟩,y1,y2,rfl⟩
    rw[KQ]at hx;obtain⟨wa,O,rfl⟩:=Lf.mp hx;obtain⟨u,a3,a1⟩:=m.get O;have hj:=(KM.mp O).1;have hwlen:=m.1;have a5:=a6.up o;symm;refine⟨b,wa,d,k.1,k.2,u,T,rfl,a5,a1,hT.up o,h1 _ _ ?_⟩;clear h1;rw[q0E,a3,List.filterMap_append,<- Ln];ext;cases b2:bW T k.2.c u with
    |none=>
     rw[q06 (λh=>h rfl)];refine⟨o,S,m,v,hj,I,z,?_,⋯⟩;rw[show(some u).toList.filterMap (λw=>(bW T k.2.c w).map λc=>(c,n,w))=[] by simp[b2],Lm];exact B
    |some cst=>
     rw[q07 (λh=>nomatch h)];refine⟨.inl ⟨rfl,_,aQ.of z⟩,au b⁻¹,λtp b6=>?_⟩;generalize z0:aD J tp _=H4;obtain⟨s4,(e4:H4 tp=some (.tup [.int cst,.int (n:Int),.ref wa]))⟩:=gP b6 z0;have G:=s4 _ _ z;have L:=v wa (KR O);refine⟨_,G,by rw[KO];exact bc ⋯,bE (o.trans s4) hl,by rw[ar a8];exact s4 _ _ S,m.mono λb y Y _ h=>tR (kF h s4) G (v b Y).1,v,hj,I++[tp],by rw[af,K2];rfl,?_,by rw[La];simp;omega⟩;rw[show(some u).toList.filterMap (λw=>(bW T k.2.c w).map λc=>(c,n,w))=[(cst,n,u)] by simp[b2]];exact(B.mono λb y _ _ h=>(h.up s4).put G).snoc (jd.put ⟨wa,L.1,L.2,e4,kF a1 s4⟩ G)
   ·rintro σ J ⟨o,S,m,v,_,⟨I,z,B,b1⟩,y1,y2,rfl⟩
    rw[KO,m.1,Lp]at B;rw[KO]at b1;exact⟨o,hi,⟨I,z,B,by have:=m.1;omega⟩,_,_,_,_,rfl⟩
  ·rintro σ Z ⟨sm,_,⟨bs,Y,hA,c1⟩,x1,x2,x3,x4,rfl⟩
   refine h1 _ _ ?_;ext;rw[wj,KO,Lp]at hA;exact q l Z hl ⟨bs,Y,hA.mono λb y _ _ h=>let ⟨lw,_,h0,h1,h2⟩:=h;⟨lw,h0,h1,h2⟩⟩ sm
def GK:HO->Prop
 | .dT _=>True
 |_=>False
def Kp(H H':Hp):Prop:=∀x o,¬ GK o->H x=some o->H' x=some o
theorem Kp.lst{H H':Hp}(s:Kp H H'){a:Addr}{xs:List V}(h:H a=some (.lst xs)):H' a=some (.lst xs):=s _ _ id h
theorem Kp.tup{H H':Hp}(s:Kp H H'){a:Addr}{xs:List V}(h:H a=some (.tup xs)):H' a=some (.tup xs):=s _ _ id h
theorem Kp.ins{H H':Hp}(s:Kp H H'){a C dx:Addr}{fs:List (Str×V)}(h:H a=some (.ins C dx fs)):H' a=some (.ins C dx fs):=s _ _ id h
theorem Kp.dK{H H':Hp}(s:Kp H H'){a:Addr}{fs:List (c_×V)}(h:H a=some (.dK fs)):H' a=some (.dK fs):=s _ _ id h
theorem bO.kp(h:bO R H as rs)(s:Kp H H'):bO R H' as rs:=by
 refine⟨h.1,λi a r c b=>?_⟩;obtain⟨e,l,h1,h2⟩:=h.2 i a r c b;exact⟨e,l,s.ins h1,s.lst h2⟩
theorem cT.kp{st:LO}(g:cT R H C dx a sg st as rs)(s:Kp H H'):cT R H' C dx a sg st as rs:=by
 obtain⟨e,c,t,h1,h2,l,b,k⟩:=g;exact⟨e,c,t,s.ins h1,s.lst h2,l.kp s,⟨s.dK b.dict,λx j=>s.lst (b.list x j),b.apart⟩,k⟩
theorem bv.kp{d:Addr}(s:bv d H H')(hd:H d=some (.dT m)):Kp H H':=λx o h e=>s x o (λz=>by rw[z,hd]at e;cases e;exact h trivial) e
theorem Cg{β:Type}{A:Hp->Addr->β->Prop}(u:∀{b:Addr} {y:β},A H b y->A H' b y)(s:Kp H H'){l:Addr}{ys:List β}(h:lu A H l ys):lu A H' l ys:=by
 obtain⟨bs,h1,h2⟩:=h;exact⟨bs,s.lst h1,h2.mono λb y _ _ q=>u q⟩
theorem br.kp(h:br H a k)(s:Kp H H'):br H' a k:=s.tup h
theorem fj.kp(h:fj CC H c p)(s:Kp H H'):fj CC H' c p:=by
 obtain⟨k,a,b,e,h1,h2,j,g⟩:=h;exact⟨k,a,b,e,s.ins h1,s.lst h2,Cg (A:=br) (λq=>q.kp s) s j,Cg (A:=br) (λq=>q.kp s) s g⟩
theorem tJ.kp(h:tJ H b y)(s:Kp H H'):tJ H' b y:=let ⟨lw,h1,h2⟩:=h;⟨lw,s.tup h1,Cg (A:=br) (λq=>q.kp s) s h2⟩
abbrev Tb:=List (Ky×Int)
def uy(e:Ky×Int):List c_×V:=(kO e.1,.int e.2)
def aF(tb:Tb)(k:Ky):Option Int:=(tb.find? λe=>decide (e.1=k)).map (·.2)
def qN(tb:Tb)(k:Ky)(v:Int):Tb:=if(aF tb k).isSome=true then tb.map (λe=>if e.1=k then(e.1,v) else e) else tb++[(k,v)]
theorem fH(e:Ky×Int)(tb:Tb)(k:Ky):aF (e::tb) k=if e.1=k then some e.2 else aF tb k:=by
 unfold aF;rw[List.find?_cons]
 by_cases h:e.1=k
 ·simp[h]
 ·simp[h]
theorem va(tb:Tb)(k:Ky):dS (tb.map uy) (kO k)=(aF tb k).map V.int:=by
 induction tb with
 |nil=>rfl
 |cons e tb ih=>
  rw[Lh,fH]
  by_cases h:e.1=k
  ·rw[hJ (show(uy e).1=kO k from q0R kO h),q07 h];rfl
  ·rw[g_ (λq=>h (uP q)),q06 h];exact ih
theorem Bo(tb:Tb)(k:Ky)(v:Int):dL (tb.map uy) (kO k) (.int v)=(qN tb k v).map uy:=by
 unfold dL qN;rw[hX,va,Option.isSome_map]
 split
 ·rw[K4,K4]
  refine q0K λe _=>?_;show(if kO e.1=kO k then(kO e.1,V.int v) else uy e)=uy (if e.1=k then(e.1,v) else e)
  by_cases h:e.1=k
  ·rw[q07 (q0R kO h),q07 h];rfl
  ·rw[q06 λq=>h (uP q),q06 h]
 ·rw[K2];rfl
theorem vn(k:Ky)(v:Int)(k':Ky):∀tb:Tb,aF (tb.map λe=>if e.1=k then(e.1,v) else e) k'=if k'=k then(aF tb k).map λ_=>v else aF tb k'
 | []=>by simp[aF]
 |e::tb=>by
  rw[Lh,fH,fH,fH,vn k v k' tb]
  by_cases h:e.1=k
  ·by_cases h':k'=k
   ·simp[h,h']
   ·have:¬ k=k':=λq=>h' q.symm
    simp[h,h',this]
  ·by_cases h':k'=k
   ·subst h';simp[h]
   ·simp[h,h']
theorem q_(k:Ky)(v:Int)(k':Ky):∀tb:Tb,aF (tb++[(k,v)]) k'=match aF tb k' with
  |some u=>some u
  |none=>if k=k' then some v else none
 | []=>by simp[aF]
 |e::tb=>by
  rw[List.cons_append,fH,fH,q_ k v k' tb]
  by_cases h:e.1=k'
  ·simp[h]
  ·simp[h]
theorem zC(tb:Tb)(k:Ky)(v:Int)(k':Ky):aF (qN tb k v) k'=if k'=k then some v else aF tb k':=by
 unfold qN
 split
 ·rename_i h
  rw[vn];obtain⟨u,hu⟩:=Option.isSome_iff_exists.mp h;rw[hu];rfl
 ·rename_i h
  rw[q_]
  by_cases e:k'=k
  ·subst e
   have:aF tb k'=none:=by simpa using h
   rw[this,q07 rfl]
  ·rw[q06 e,q06 λq=>e q.symm]
   cases aF tb k'<;>rfl
theorem AQ(h:aF tb k=none):k∉tb.map (·.1):=by
 intro a;obtain⟨e,b,rfl⟩:=Lx.mp a;unfold aF at h;rw[Option.map_eq_none_iff,List.find?_eq_none]at h;exact h e b (by simp)
theorem rM(tb:Tb)(k:Ky)(v:Int):(qN tb k v).map (·.1)=if(aF tb k).isSome=true then tb.map (·.1) else tb.map (·.1)++[k]:=by
 unfold qN
 split
 ·rw[K4]
  refine q0K λe _=>?_;show(if e.1=k then(e.1,v) else e).1=e.1
  split<;>rfl
 ·rw[K2];rfl
theorem Di{tb:Tb}(nd:(tb.map (·.1)).Nodup):((qN tb k v).map (·.1)).Nodup:=by
 rw[rM]
 split
 ·exact nd
 ·rename_i h
  rw[List.nodup_append];refine⟨nd,by simp,λa ha b hb e=>?_⟩;rw[KP.mp hb]at e;exact AQ (by simpa using h) (e▸ha)
theorem B_(tb:Tb)(k:Ky)(v:Int):(qN tb k v).length=if(aF tb k).isSome=true then tb.length else tb.length+1:=by
 have:=q0R List.length (rM tb k v);rw[KO]at this;rw[this]
 split
 ·rw[KO]
 ·rw[La,KO];rfl
def cB(H:Hp)(d:Addr)(tb:Tb):Prop:=H d=some (.dT (tb.map uy))
theorem cB.told{d:Addr}(h:cB H d tb):jm H d (aF tb):=⟨_,h,λk=>va tb k⟩
theorem cB.up{d:Addr}(h:cB H d tb)(s:az H H'):cB H' d tb:=s _ _ h
def ip(tb:Tb)(k:Ky)(v:Int):Bool:=match aF tb k with
 |some u=>decide (v<u)
 |none=>true
def dZ(tb:Tb)(k:Ky)(v:Int):Tb:=if ip tb k v=true then qN tb k v else tb
def wb(tb tb':Tb):Prop:=∀k u,aF tb k=some u->∃u',u'<=u/\aF tb' k=some u'
theorem wb.refl(tb:Tb):wb tb tb:=λk u h=>⟨u,Int.le_refl _,h⟩
theorem wb.trans(h1:wb a b)(h2:wb b c):wb a c:=λk u h=>by
 obtain⟨u1,l1,e1⟩:=h1 k u h;obtain⟨u2,l2,e2⟩:=h2 k u1 e1;exact⟨u2,Int.le_trans l2 l1,e2⟩
theorem jI(tb:Tb)(k:Ky)(v:Int)(k':Ky):aF (dZ tb k v) k'=if k'=k/\ip tb k v=true then some v else aF tb k':=by
 unfold dZ
 by_cases h:ip tb k v=true
 ·rw[q07 h,zC]
  by_cases e:k'=k
  ·rw[q07 e,q07 ⟨e,h⟩]
  ·rw[q06 e,q06 λq=>e q.1]
 ·rw[q06 h,q06 λq=>h q.2]
theorem t5{k:Ky}{k':Ky}(h:k'≠k):aF (dZ tb k v) k'=aF tb k':=by rw[jI,q06 λq=>h q.1]
theorem yI(tb:Tb)(k:Ky)(v:Int):∃v',v'<=v/\aF (dZ tb k v) k=some v':=by
 rw[jI];cases h:ip tb k v with
 |true=>exact⟨v,Int.le_refl _,by simp⟩
 |false=>
  unfold ip at h;cases a:aF tb k with
  |none=>rw[a]at h;cases h
  |some u=>
   rw[a]at h;have:¬ v<u:=by simpa using h
   exact⟨u,⋯,by simp⟩
theorem xS(tb:Tb)(k:Ky)(v:Int):wb tb (dZ tb k v):=by
 intro b u a;rw[jI]
 by_cases e:b=k/\ip tb k v=true
 ·rw[q07 e]
  obtain⟨rfl,h⟩:=e;unfold ip at h;rw[a]at h;have:v<u:=by simpa using h
  exact⟨v,⋯,rfl⟩
 ·rw[q06 e];exact⟨u,Int.le_refl _,a⟩
theorem uz{k':Ky}{u:Int}(h:aF (dZ tb k v) k'=some u):aF tb k'=some u\/k'=k/\u=v:=by
 rw[jI]at h
 split at h
 ·rename_i e
  exact .inr ⟨e.1,by injection h with h;exact h.symm⟩
 ·exact .inl h
theorem Aw{tb:Tb}(nd:(tb.map (·.1)).Nodup):((dZ tb k v).map (·.1)).Nodup:=by
 unfold dZ
 split
 ·exact Di nd
 ·exact nd
theorem yG(tb:Tb)(k:Ky)(v:Int):(dZ tb k v).length<=if(aF tb k).isSome=true then tb.length else tb.length+1:=by
 unfold dZ
 split
 ·rw[B_];exact Lb _
 ·split<;>omega
def we(p:aL):Prop:=p≠[]/\bV p
theorem we.inj(h:we p)(h':we q)(e:aT p=aT q):p=q:=SpM.glue_inj 47 h.1 h'.1 h.2 h'.2 e
inductive Dv(rs:Yaa):Ky->Int->Prop
 |leaf {r:Nat×RV} {p:aL}:r∈rs->we p->[]∈bQ r p->Dv rs (aT p,r.2.n) r.2.c
 |one {r:Nat×RV} {p:aL} {k:Ky} {a:Int}:r∈rs->we p->[k]∈bQ r p->Dv rs k a->Dv rs (aT p,r.2.n) (r.2.c+a)
 |two {r:Nat×RV} {p:aL} {k1 k2:Ky} {a b:Int}:r∈rs->we p->[k1,k2]∈bQ r p->Dv rs k1 a->Dv rs k2 b->Dv rs (aT p,r.2.n) (r.2.c+a+b)
theorem mJ{w:List Ky}(h:w∈bQ r p):w=[]\/(∃k,w=[k])\/∃k1 k2,w=[k1,k2]:=by
 unfold bQ at h
 split at h
 ·split at h
  ·exact .inl (KP.mp h)
  ·exact nomatch h
 ·obtain⟨k,_,rfl⟩:=Lx.mp h
  exact .inr (.inr ⟨_,_,rfl⟩)
 ·obtain⟨k,_,rfl⟩:=Lx.mp h
  exact .inr (.inr ⟨_,_,rfl⟩)
 ·exact .inr (.inl ⟨_,KP.mp h⟩)
theorem lL{v:Int}{k:Ky}(h:bW T c [k]=some v):∃a,T k=some a/\v=c+a:=by
 unfold bW at h;cases b:T k with
 |none=>rw[b]at h;cases h
 |some a=>rw[b]at h;injection h with h;exact⟨a,rfl,h.symm⟩
theorem p6{v:Int}{k1 k2:Ky}(h:bW T c [k1,k2]=some v):∃a b,T k1=some a/\T k2=some b/\v=c+a+b:=by
 unfold bW at h;cases g:T k1 with
 |none=>rw[g]at h;cases h
 |some a=>
  rw[g]at h;obtain⟨b,j,e⟩:=lL h;exact⟨a,b,rfl,j,e⟩
theorem D8{rs:Yaa}{r:Nat×RV}{w:List Ky}{v:Int}(hr:r∈rs)(hp:we p)(hw:w∈bQ r p)(hc:bW T r.2.c w=some v)(hT:∀k∈w,∀u,T k=some u->Dv rs k u):Dv rs (aT p,r.2.n) v:=by
 rcases mJ hw with rfl | ⟨k,rfl⟩ | ⟨j,g,rfl⟩
 ·injection hc with hc;rw[<- hc];exact .leaf hr hp hw
 ·obtain⟨a,e,rfl⟩:=lL hc
  exact .one hr hp hw (hT k (by simp) a e)
 ·obtain⟨a,b,e,l,rfl⟩:=p6 hc
  exact .two hr hp hw (hT j (by simp) a e) (hT g (by simp) b l)
theorem jB{T T':Ky->Option Int}:∀{w:List Ky} {c:Int},(∀k∈w,T k=T' k)->bW T c w=bW T' c w
 | [],c,_=>rfl
 |k::w,c,h=>by
  show(match T k with | none=>none | some v=>bW T (c+v) w)=(match T' k with | none=>none | some v=>bW T' (c+v) w);rw[h k (q0B ..)];cases T' k with
  |none=>rfl
  |some v=>exact jB λk hk=>h k (K6 _ hk)
def Hy(rs:Yaa)(T:Ky->Option Int)(q:aL):Prop:=∀r∈rs,∀w∈bQ r q,∀v,bW T r.2.c w=some v->∃v',v'<=v/\T (aT q,r.2.n)=some v'
set_option tactic.hygienic true in
theorem rF(hq:rect q a c)(a0:0<a)(c0:0<c){w:List Ky}(hw:w∈bQ r q){k:Ky}(hk:k∈w) :
  (∃t l b x,t<b/\b<=a/\l<x/\x<=c/\k.1=aT (cut q t l b x)/\aH (cut q t l b x)<aH q/\r.1<3)\/(3<=r.1/\w=[(aT (turned q (di r.2.t.toNat)),r.2.o1)]):=by
 have cell:∀{t l b x:Nat},t<b->b<=a->l<x->x<=c->(b-t<a/\x-l=c\/b-t=a/\x-l<c)->aH (cut q t l b x)<aH q:=by
  intro t l b x h1 h2 h3 h4 h5;have hc:=cn hq h1 h2 h3 h4;unfold aH;rw[hc.1,aO hc ⋯,hq.1,aO hq a0];rcases h5 with⟨h,e⟩ | ⟨e,h⟩
  ·rw[e];exact Nat.mul_lt_mul_of_pos_right h c0
  ·rw[e];exact Nat.mul_lt_mul_of_pos_left h a0
 unfold bQ at hw
 split at hw
 ·split at hw
  ·rw[KP.mp hw]at hk;exact nomatch hk
  ·exact nomatch hw
 ·rename_i hr
  obtain⟨k0,h0,rfl⟩:=Lx.mp hw;unfold bP at h0;obtain⟨j,hj,rfl⟩:=Lx.mp h0;have hj:=List.mem_range.mp hj;rw[aO hq a0]at hj
  left
  rcases K5.mp hk with rfl | hk
  ·exact⟨0,0,a,j+1,a0,Lb _,⋯,⋯,q0R aT (jN hq),cell a0 (Lb _) ⋯ ⋯ (.inr ⟨⋯,⋯⟩),⋯⟩
  ·rw[KP.mp hk]
   exact⟨0,j+1,a,c,a0,Lb _,⋯,Lb _,q0R aT (jR hq),cell a0 (Lb _) ⋯ (Lb _) (.inr ⟨⋯,⋯⟩),⋯⟩
 ·rename_i hr
  obtain⟨k0,h0,rfl⟩:=Lx.mp hw;unfold bP at h0;obtain⟨j,hj,rfl⟩:=Lx.mp h0;have hj:=List.mem_range.mp hj;rw[hq.1]at hj
  left
  rcases K5.mp hk with rfl | hk
  ·exact⟨0,0,j+1,c,⋯,⋯,c0,Lb _,q0R aT (jD hq),cell ⋯ ⋯ c0 (Lb _) (.inl ⟨⋯,⋯⟩),⋯⟩
  ·rw[KP.mp hk]
   exact⟨j+1,0,a,c,⋯,Lb _,c0,Lb _,q0R aT (jM hq),cell ⋯ (Lb _) c0 (Lb _) (.inl ⟨⋯,⋯⟩),⋯⟩
 ·rename_i x h0 h1 h2
  right
  refine⟨?_,KP.mp hw⟩;rcases hh:r.1 with _ | _ | _ | n
  ·exact q0Q hh h0
  ·exact q0Q hh h1
  ·exact q0Q hh h2
  ·omega
theorem b7(hp:rect p r c)(hn:bV p)(h:a_ p r c q):we q:=by
 obtain⟨r',c',h1,h2,_⟩:=h.rect hp;exact⟨λe=>by rw[e]at h1;have:=h1.1;simp at this;omega,h.ns hp hn⟩
theorem jv(hp:rect p r c)(h:a_ p r c q){x:Nat×RV}(t0:0<=x.2.t)(t7:x.2.t<=7){w:List Ky}(hw:w∈bQ x q){k:Ky}(hk:k∈w):∃q',a_ p r c q'/\k.1=aT q'/\(aH q'<aH q\/3<=x.1/\q'=turned q (di x.2.t.toNat)):=by
 obtain⟨a,b,h1,h2,u,_⟩:=h.rect hp;rcases rF h1 h2 u hw hk with⟨t,l,b,y,e,o,n,m,j,g,_⟩ | ⟨e,rfl⟩
 ·exact⟨_,h.cut hp h1 e o n m,j,.inl g⟩
 ·rw[KP.mp hk]
  exact⟨_,h.turned hp (eu ⋯),rfl,.inr ⟨e,rfl⟩⟩
theorem Ax{rs:Yaa}(hp:rect p r c)(hn:bV p)(hg:∀x∈rs,0<=x.2.t/\x.2.t<=7)(hC:∀q,a_ p r c q->Hy rs T q){k:Ky}{v:Int}(h:Dv rs k v):∀q,a_ p r c q->k.1=aT q->∃v',v'<=v/\T k=some v':=by
 induction h with
 | @leaf x q0 hr ho hw=>
  intro q g e;have e:=ho.inj (b7 hp hn g) e;subst e;exact hC _ g x hr _ hw _ rfl
 | @one x q0 k a hr ho hw _ ih=>
  intro q g e;have e:=ho.inj (b7 hp hn g) e;subst e;obtain⟨j,h1,m,_⟩:=jv hp g (hg x hr).1 (hg x hr).2 hw (k:=k) (by simp);obtain⟨o,w,l⟩:=ih j h1 m;obtain⟨v',y,n⟩:=hC _ g x hr _ hw (x.2.c+o) (by unfold bW;rw[l];rfl);exact⟨v',⋯,n⟩
 | @two x q0 k1 k2 a b hr ho hw _ _ ih1 ih2=>
  intro q g e;have e:=ho.inj (b7 hp hn g) e;subst e;obtain⟨j,h1,m,_⟩:=jv hp g (hg x hr).1 (hg x hr).2 hw (k:=k1) (by simp);obtain⟨u,h2,B,_⟩:=jv hp g (hg x hr).1 (hg x hr).2 hw (k:=k2) (by simp);obtain⟨o,w,l⟩:=ih1 j h1 m;obtain⟨C,lb,z⟩:=ih2 u h2 B;obtain⟨v',y,n⟩:=hC _ g x hr _ hw (x.2.c+o+C) (by unfold bW;rw[l];show bW T _ [k2]=_;unfold bW;rw[z];rfl);exact⟨v',⋯,n⟩
def CK(q:aL)(ns:List (List Nat)):List Ky:=(List.range 8).flatMap λt=>ns.map λn=>(aT (turned q t),n)
theorem kQ{ns:List (List Nat)}{k:Ky}:k∈CK q ns↔∃t,t<8/\∃n,n∈ns/\k=(aT (turned q t),n):=by
 unfold CK;simp only[List.mem_flatMap,List.mem_range,Lx]
 constructor
 ·rintro⟨t,a,n,b,rfl⟩;exact⟨t,a,n,b,rfl⟩
 ·rintro⟨t,a,n,b,rfl⟩;exact⟨t,a,n,b,rfl⟩
theorem t_(q:aL)(ns:List (List Nat)):(CK q ns).length=8*ns.length:=by
 unfold CK;rw[List.length_flatMap];simp only[KO];show ns.length+(ns.length+(ns.length+(ns.length+(ns.length+(ns.length+(ns.length+(ns.length+0)))))))=_;omega
def gU(q:aL)(r:Nat×RV)(t:Nat):Ky:=(aT (turned q (after t r.2.t.toNat)),r.2.n)
def Bf(trs:Yaa)(q:aL)(tb:Tb)(k:Ky)(v:Int):Prop:=∀r∈trs,r.2.o1=k.2->∀t,t<8->k.1=aT (turned q t)->∃v',v'<=v+r.2.c/\aF tb (gU q r t)=some v'
theorem Bf.le{trs:Yaa}{tb':Tb}(h:Bf trs q tb k v)(l:wb tb tb'):Bf trs q tb' k v:=λr hr e t ht e'=>by
 obtain⟨v1,l1,e1⟩:=h r hr e t ht e';obtain⟨v2,l2,e2⟩:=l _ _ e1;exact⟨v2,Int.le_trans l2 l1,e2⟩
theorem tN{α:Type}{f g:α->Nat}:∀{ks:List α},(∀x∈ks,f x<=g x)->(ks.map f).sum<=(ks.map g).sum
 | [],_=>Lb _
 |k::ks,h=>by
  have h1:=h k (q0B ..);have h2:=tN (ks:=ks) λx hx=>h x (K6 _ hx);rw[Lh,Lh,List.sum_cons,List.sum_cons];omega
theorem nW{α:Type}{f g:α->Nat}:∀{ks:List α} {x:α},(∀x∈ks,f x<=g x)->x∈ks->f x<g x->(ks.map f).sum+1<=(ks.map g).sum
 | [],_,_,h,_=>nomatch h
 |k::ks,x,h,hx,hl=>by
  have h1:=h k (q0B ..);have hr:∀x∈ks,f x<=g x:=λx hx=>h x (K6 _ hx);rw[Lh,Lh,List.sum_cons,List.sum_cons];rcases K5.mp hx with rfl | hx
  ·have h2:=tN hr;omega
  ·have h2:=nW hr hx hl;omega
theorem kX{α:Type}{f:α->Nat}{b:Nat}:∀{ks:List α},(∀x∈ks,f x<=b)->(ks.map f).sum<=b*ks.length
 | [],_=>Lc _
 |k::ks,h=>by
  have h1:=h k (q0B ..);have h2:=kX (ks:=ks) λx hx=>h x (K6 _ hx);rw[Lh,List.sum_cons,K1,Nat.mul_succ];omega
def w6(tb:Tb)(k:Ky):Nat:=match aF tb k with
 |some _=>1
 |none=>0
def Dz(B:Nat)(tb:Tb)(k:Ky):Nat:=match aF tb k with
 |some v=>v.toNat
 |none=>B+1
def oA(ks:List Ky)(tb:Tb):Nat:=(ks.map (w6 tb)).sum
def EU(ks:List Ky)(B:Nat)(tb:Tb):Nat:=(ks.map (Dz B tb)).sum
theorem ij(ks:List Ky)(tb:Tb):oA ks tb<=ks.length:=by
 have:=kX (f:=w6 tb) (b:=1) (ks:=ks) λx _=>by unfold w6;split<;>omega
 unfold oA;omega
theorem yB{tb':Tb}(l:wb tb tb')(k:Ky):w6 tb k<=w6 tb' k:=by
 unfold w6;cases h:aF tb k with
 |none=>exact Lc _
 |some v=>
  obtain⟨v',_,e⟩:=l k v h;rw[e];exact Lb _
theorem EV{tb':Tb}(l:wb tb tb')(ks:List Ky):oA ks tb<=oA ks tb':=tN λx _=>yB l x
theorem C'{tb':Tb}(l:wb tb tb'){ks:List Ky}{k:Ky}{v:Int}(hk:k∈ks)(h:aF tb k=none)(h':aF tb' k=some v):oA ks tb+1<=oA ks tb':=nW (λx _=>yB l x) hk (by unfold w6;rw[h,h'];exact Nat.zero_lt_one)
structure TI(trs rs:Yaa)(q:aL)(ns:List (List Nat))(M L0:Nat)(tb0 tb:Tb)(op:Ky->Prop):Prop where
 nd:(tb.map (·.1)).Nodup
 le:wb tb0 tb
 out:∀k,k∉CK q ns->aF tb k=aF tb0 k
 snd:∀k∈CK q ns,∀v,aF tb k=some v->Dv rs k v
 sett:∀k∈CK q ns,∀v,aF tb k=some v->¬ op k->Bf trs q tb k v
 opk:∀k,op k->k∈CK q ns/\∃v,aF tb k=some v
 pos:∀k∈CK q ns,∀v,aF tb k=some v->1<=v/\v<=((M+9*oA (CK q ns) tb:Nat):Int)
 len:tb.length<=L0+oA (CK q ns) tb
theorem TI.op{trs:Yaa}{ns:List (List Nat)}{L0:Nat}{tb0:Tb}{op op':Ky->Prop}(h:TI trs rs q ns M L0 tb0 tb op)(h1:∀k,op' k->op k)(h2:∀k v,op k->¬ op' k->aF tb k=some v->Bf trs q tb k v):TI trs rs q ns M L0 tb0 tb op':=
 ⟨h.nd,h.le,h.out,h.snd,λk hk v e no=>by
  by_cases ho:op k
  ·exact h2 k v ho no e
  ·exact h.sett k hk v e ho,λk ho=>h.opk k (h1 k ho),h.pos,h.len⟩
theorem lY{r:Nat×RV}(h:3<=r.1)(p:aL):bQ r p=[[(aT (turned p (di r.2.t.toNat)),r.2.o1)]]:=by
 unfold bQ
 split
 ·omega
 ·omega
 ·omega
 ·rfl
structure HB(rs:Yaa)(ns:List (List Nat))(r:Nat×RV):Prop where
 mem:r∈rs
 k3:3<=r.1
 c1:1<=r.2.c
 c9:r.2.c<=9
 t0:0<=r.2.t
 t7:r.2.t<=7
 nm:r.2.n∈ns
theorem TI.low{trs:Yaa}{ns:List (List Nat)}{L0:Nat}{tb0:Tb}{op:Ky->Prop}(h:TI trs rs q ns M L0 tb0 tb op)(hq:rect q a c)(a0:0<a)(c0:0<c)(hO:∀t,t<8->we (turned q t))(h8:ns.length<=8){r:Nat×RV}(hr:HB rs ns r){t:Nat}(ht:t<8){v:Int}(hk:(aT (turned q t),r.2.o1)∈CK q ns)(hv:aF tb (aT (turned q t),r.2.o1)=some v) :
  TI trs rs q ns M L0 tb0 (dZ tb (gU q r t) (v+r.2.c)) (λx=>op x\/(ip tb (gU q r t) (v+r.2.c)=true/\x=gU q r t))/\EU (CK q ns) (M+576) (dZ tb (gU q r t) (v+r.2.c))+(if ip tb (gU q r t) (v+r.2.c)=true then 1 else 0)<=EU (CK q ns) (M+576) tb:=by
 have D:r.2.t.toNat<8:=by have:=hr.t0;have:=hr.t7;omega
 have J:=gZ ht D;have j:gU q r t∈CK q ns:=kQ.mpr ⟨_,J,_,hr.nm,rfl⟩;have o:Dv rs (gU q r t) (v+r.2.c):=by
  rw[Int.add_comm];refine Dv.one hr.mem (hO _ J) (k:=(aT (turned q t),r.2.o1)) ?_ (h.snd _ hk v hv);rw[lY hr.k3];have G:=cC hq a0 c0 t;rw[<- bK hq a0 c0 ht D,jh G (by split<;>assumption) (by split<;>assumption) D];exact KP.mpr rfl
 have hc1:=hr.c1;have hc9:=hr.c9;obtain⟨p1,p2⟩:=h.pos _ hk v hv;generalize gU q r t=k' at j o ⊢;generalize hv':v+r.2.c=v' at o ⊢;cases u:ip tb k' v' with
 |false=>
  have e:dZ tb k' v'=tb:=by unfold dZ;rw[u];rfl
  rw[e];exact⟨h.op (λk hk=>hk.elim id λx=>q0Q x.1 (by simp)) λk v n y _=>q0Q (.inl n) y,by simp⟩
 |true=>
  have g:=xS tb k' v';have hcl:=EV g (CK q ns);have b:aF (dZ tb k' v') k'=some v':=by rw[jI,q07 ⟨rfl,u⟩]
  have I:=ij (CK q ns) (dZ tb k' v');rw[t_]at I;have m:∀w,aF tb k'=some w->v'<w:=λw l=>by
   unfold ip at u;rw[l]at u
   simpa using u
  have p:aF tb k'=none->oA (CK q ns) tb+1<=oA (CK q ns) (dZ tb k' v'):=λO=>C' g j O b;have C:v'<=((M+9*oA (CK q ns) (dZ tb k' v'):Nat):Int):=by
   cases l:aF tb k' with
   |none=>have:=p l;omega
   |some w=>
    have h1:=m w l;have h2:=(h.pos _ j w l).2;omega
  refine⟨⟨Aw h.nd,h.le.trans g,λk hk=>?_,λk hk w e=>?_,λk hk w e y=>?_,λk n=>?_,λk hk w e=>?_,?_⟩,?_⟩
  ·rw[t5 λe=>hk (by rw[e];exact j)];exact h.out k hk
  ·rcases uz e with e | ⟨rfl,rfl⟩
   ·exact h.snd k hk w e
   ·exact o
  ·have L:k≠k':=λe=>y (.inr ⟨rfl,e⟩)
   rw[t5 L]at e;exact(h.sett k hk w e λn=>y (.inl n)).le g
  ·rcases n with n | ⟨_,rfl⟩
   ·obtain⟨h1,w,h2⟩:=h.opk k n
    obtain⟨B,_,R⟩:=g k w h2;exact⟨h1,B,R⟩
   ·exact⟨j,v',b⟩
  ·rcases uz e with e | ⟨rfl,rfl⟩
   ·have:=h.pos k hk w e
    exact⟨this.1,⋯⟩
   ·exact⟨⋯,C⟩
  ·have h1:=yG tb k' v'
   have h2:=h.len;cases l:aF tb k' with
   |none=>rw[l]at h1;have:=p l;simp at h1;omega
   |some w=>rw[l]at h1;simp at h1;omega
  ·rw[q07 rfl]
   refine nW (x:=k') (λx _=>?_) j ?_
   ·unfold Dz
    cases z:aF tb x with
    |none=>
     by_cases e:x=k'
     ·subst e;rw[b]
      show v'.toNat<=_;simp only;omega
     ·rw[t5 e,z];exact Lb _
    |some w=>
     obtain⟨B,l1,S⟩:=g x w z;rw[S];show B.toNat<=w.toNat;omega
   ·unfold Dz
    rw[b];cases z:aF tb k' with
    |none=>show v'.toNat<_;simp only;omega
    |some w=>
     have:=m w z;show v'.toNat<w.toNat;omega
theorem TI.mu{trs:Yaa}{ns:List (List Nat)}{L0:Nat}{tb0:Tb}{op:Ky->Prop}(h:TI trs rs q ns M L0 tb0 tb op)(h8:ns.length<=8):EU (CK q ns) (M+576) tb<=(M+577)*64:=by
 have h64:=ij (CK q ns) tb;have hl:=t_ q ns;have h1:EU (CK q ns) (M+576) tb<=(M+577)*(CK q ns).length:=kX λx a=>by
  unfold Dz;cases b:aF tb x with
  |none=>exact Lb _
  |some v=>
   have:=(h.pos x a v b).2;show v.toNat<=_;omega
 exact Lj h1 (Nat.mul_le_mul_left _ ⋯)
theorem TI.len64{trs:Yaa}{ns:List (List Nat)}{L0:Nat}{tb0:Tb}{op:Ky->Prop}(h:TI trs rs q ns M L0 tb0 tb op)(h8:ns.length<=8):tb.length<=L0+64:=by
 have h64:=ij (CK q ns) tb;have hl:=t_ q ns;have:=h.len;omega
def mT(rs:Yaa)(n:Nat):List Nat:=match rs[n]? with
 |some r=>r.2.n
 |none=>[]
def qM(rs:Yaa)(p:aL)(tb:Tb)(ys:List (Int×Nat×List Ky)):Tb:=ys.foldl (λtb y=>dZ tb (aT p,mT rs y.2.1) y.1) tb
def GN(rs:Yaa)(ns:LO)(p:aL)(tb:Tb):Tb:=qM rs p tb (ns.flatMap (cE (aF tb) rs p))
structure HJ(rs:Yaa)(p:aL)(tb tb':Tb)(ys:List (Int×Nat×List Ky)):Prop where
 le:wb tb tb'
 out:∀k:Ky,k.1≠aT p->aF tb' k=aF tb k
 all:∀y∈ys,∃v',v'<=y.1/\aF tb' (aT p,mT rs y.2.1)=some v'
 val:∀k v,aF tb' k=some v->aF tb k=some v\/∃y∈ys,k=(aT p,mT rs y.2.1)/\v=y.1
 len:tb'.length<=tb.length+ys.length
 nd:(tb.map (·.1)).Nodup->(tb'.map (·.1)).Nodup
theorem mI(rs:Yaa)(p:aL):∀(ys:List (Int×Nat×List Ky)) (tb:Tb),HJ rs p tb (qM rs p tb ys) ys
 | [],tb=>⟨wb.refl _,λ_ _=>rfl,(λy hy=>nomatch hy),λk v h=>.inl h,Lb _,id⟩
 |y::ys,tb=>by
  have ih:=mI rs p ys (dZ tb (aT p,mT rs y.2.1) y.1);have e:qM rs p tb (y::ys)=qM rs p (dZ tb (aT p,mT rs y.2.1) y.1) ys:=rfl;rw[e];refine⟨(xS _ _ _).trans ih.le,λk hk=>?_,λz hz=>?_,λk v h=>?_,?_,λnd=>ih.nd (Aw nd)⟩
  ·rw[ih.out k hk,t5 λq=>hk (by rw[q])]
  ·rcases K5.mp hz with rfl | hz
   ·obtain⟨v,l1,e1⟩:=yI tb (aT p,mT rs z.2.1) z.1
    obtain⟨v',l2,e2⟩:=ih.le _ _ e1;exact⟨v',Int.le_trans l2 l1,e2⟩
   ·exact ih.all z hz
  ·rcases ih.val k v h with h | ⟨z,hz,e1,e2⟩
   ·rcases uz h with h | ⟨e1,e2⟩
    ·exact .inl h
    ·exact .inr ⟨y,q0B ..,e1,e2⟩
   ·exact .inr ⟨z,K6 _ hz,e1,e2⟩
  ·have h1:=ih.len
   have h2:=yG tb (aT p,mT rs y.2.1) y.1;rw[K1]
   split at h2<;>omega
theorem mG{ns:LO}{y:Int×Nat×List Ky}(h:y∈ns.flatMap (cE T rs p)):y.2.1∈ns/\∃r,rs[y.2.1]?=some r/\y.2.2∈bQ r p/\bW T r.2.c y.2.2=some y.1:=by
 obtain⟨n,g,a⟩:=List.mem_flatMap.mp h;unfold cE at a;cases hr:rs[n]? with
 |none=>rw[hr]at a;exact nomatch a
 |some r=>
  rw[hr]at a;unfold xF at a;obtain⟨w,b,e⟩:=List.mem_filterMap.mp a;obtain⟨c,j,rfl⟩:=Lf.mp e;exact⟨g,r,hr,b,j⟩
theorem rN{rs:Yaa}{ns:LO}{n:Nat}{r:Nat×RV}{w:List Ky}{v:Int}(hn:n∈ns)(hr:rs[n]?=some r)(hw:w∈bQ r p)(hc:bW T r.2.c w=some v):(v,n,w)∈ns.flatMap (cE T rs p):=by
 refine List.mem_flatMap.mpr ⟨n,hn,?_⟩;unfold cE;rw[hr];exact List.mem_filterMap.mpr ⟨w,hw,by rw[hc];rfl⟩
theorem iG{rs:Yaa}(hp:i' p a c)(hg:∀r∈rs,r.1<4):∀ns:List Nat,(ns.flatMap (cE T rs p)).length<=6*ns.length
 | []=>Lb _
 |n::ns=>by
  have ih:=iG (T:=T) hp hg ns;rw[List.flatMap_cons,La,K1];have:(cE T rs p n).length<=6:=by
   unfold cE;cases hr:rs[n]? with
   |none=>exact Lc _
   |some r=>exact Lj (List.length_filterMap_le _ _) (rS (hg r (KR hr)) hp)
  omega
def pta(rs:Yaa)(ns:LO)(q:aL)(tb:Tb):Nat->Tb
 |0=>tb
 |n+1=>GN rs ns (turned q n) (pta rs ns q tb n)
def fg(rs:Yaa):List Nat:=rs.zipIdx.filterMap λx=>if x.1.1=3 then none else some x.2
theorem kY{n:Nat}:n∈fg rs↔∃r,rs[n]?=some r/\r.1≠3:=by
 unfold fg;rw[List.mem_filterMap]
 constructor
 ·rintro⟨⟨r,i⟩,hm,e⟩
  have hi:=List.mem_zipIdx_iff_getElem?.mp hm
  split at e
  ·cases e
  ·rename_i h
   injection e with e
   subst e;exact⟨r,hi,h⟩
 ·rintro⟨r,hr,h⟩
  exact⟨(r,n),List.mem_zipIdx_iff_getElem?.mpr hr,by rw[q06 h]⟩
def pj(rs:Yaa):Yaa:=rs.filter λr=>decide (r.1=3)
structure DO(rs:Yaa)(ns:LO)(q:aL)(tb0 tb:Tb)(n:Nat):Prop where
 le:wb tb0 tb
 out:∀k:Ky,(∀t,t<8->k.1≠aT (turned q t))->aF tb k=aF tb0 k
 all:∀t,t<n->∀m∈ns,∀r,rs[m]?=some r->∀w∈bQ r (turned q t),∀v,bW (aF tb0) r.2.c w=some v->∃v',v'<=v/\aF tb (aT (turned q t),r.2.n)=some v'
 val:∀k v,aF tb k=some v->aF tb0 k=some v\/∃t,t<8/\∃r∈rs,r.1≠3/\∃w∈bQ r (turned q t),bW (aF tb0) r.2.c w=some v/\k=(aT (turned q t),r.2.n)
 len:tb.length<=tb0.length+6*ns.length*n
 nd:(tb0.map (·.1)).Nodup->(tb.map (·.1)).Nodup
theorem uV{rs:Yaa}{n:Nat}{r:Nat×RV}(h:rs[n]?=some r):mT rs n=r.2.n:=by unfold mT;rw[h]
theorem vf{rs:Yaa}{tb0:Tb}{a c:Nat}(hg:∀r∈rs,r.1<4)(h6:∀t,t<8->∃a c,i' (turned q t) a c)
  (hK:∀t,t<8->∀r∈rs,r.1≠3->∀w∈bQ r (turned q t),∀k∈w,∀t',t'<8->k.1≠aT (turned q t')):∀n,n<=8->DO rs (fg rs) q tb0 (pta rs (fg rs) q tb0 n) n
 |0,_=>⟨wb.refl _,λ_ _=>rfl,λt ht=>q0Q ht (Nat.not_lt_zero _),λk v h=>.inl h,by simp[pta],id⟩
 |n+1,hn=>by
  have ih:=vf (tb0:=tb0) (a:=a) (c:=c) hg h6 hK n ⋯;have e:pta rs (fg rs) q tb0 (n+1)=GN rs (fg rs) (turned q n) (pta rs (fg rs) q tb0 n):=rfl;rw[e];generalize pta rs (fg rs) q tb0 n=tb at ih ⊢;unfold GN;have ps:=mI rs (turned q n) ((fg rs).flatMap (cE (aF tb) rs (turned q n))) tb;obtain⟨a',c',h6'⟩:=h6 n ⋯;have hl:=iG (T:=aF tb) h6' hg (fg rs);have same:∀{r:Nat×RV},r∈rs->r.1≠3->∀{w:List Ky},w∈bQ r (turned q n)->bW (aF tb) r.2.c w=bW (aF tb0) r.2.c w:=fun{r} hr h3 {w} hw=>jB λk hk=>ih.out k λt' ht'=>hK n ⋯ r hr h3 w hw k hk t' ht';refine⟨ih.le.trans ps.le,λk hk=>?_,λt ht m hm r hr w hw v hv=>?_,λk v h=>?_,?_,λnd=>ps.nd (ih.nd nd)⟩
  ·rw[ps.out k (hk n ⋯)];exact ih.out k hk
  ·by_cases et:t=n
   ·subst et
    obtain⟨r',hr',h3⟩:=kY.mp hm;rw[hr]at hr';cases hr'
    obtain⟨v',l',e'⟩:=ps.all _ (rN (v:=v) hm hr hw (by rw[same (KR hr) h3 hw];exact hv));rw[show mT rs m=r.2.n from uV hr]at e';exact⟨v',l',e'⟩
   ·obtain⟨v1,l1,e1⟩:=ih.all t ⋯ m hm r hr w hw v hv
    obtain⟨v2,l2,e2⟩:=ps.le _ _ e1;exact⟨v2,Int.le_trans l2 l1,e2⟩
  ·rcases ps.val k v h with h | ⟨y,hy,e1,e2⟩
   ·exact ih.val k v h
   ·obtain⟨h1,r,h2,h3,h4⟩:=mG hy
    obtain⟨r',hr',h5⟩:=kY.mp h1;rw[h2]at hr';cases hr'
    have hm:=KR h2;rw[uV h2]at e1;exact .inr ⟨n,⋯,r,hm,h5,_,h3,by rw[<- same hm h5 h3,h4,e2],e1⟩
  ·have h1:=ps.len
   have h2:=ih.len;rw[Nat.mul_add];omega
theorem dW(hq:rect q a c)(a0:0<a)(c0:0<c)(t:Nat):aH (turned q t)=aH q:=by
 have b:=cC hq a0 c0 t;unfold aH;rw[b.1,aO b (by split<;>assumption),hq.1,aO hq a0]
 split
 ·rfl
 ·rw[Nat.mul_comm]
theorem DD(hq:rect q a c)(a0:0<a)(c0:0<c){k1 k2:Ky}(hw:[k1,k2]∈bQ r q):∃q1 q2,(∃t l b x,t<b/\b<=a/\l<x/\x<=c/\q1=cut q t l b x)/\(∃t l b x,t<b/\b<=a/\l<x/\x<=c/\q2=cut q t l b x)/\k1.1=aT q1/\k2.1=aT q2/\aH q1+aH q2=aH q:=by
 have g:∀{t l b x:Nat},t<b->b<=a->l<x->x<=c->aH (cut q t l b x)=(b-t)*(x-l):=by
  intro t l b x h1 h2 u p;have n:=cn hq h1 h2 u p;unfold aH;rw[n.1,aO n ⋯]
 have all:aH q=a*c:=by unfold aH;rw[hq.1,aO hq a0]
 unfold bQ at hw
 split at hw
 ·split at hw
  ·exact nomatch KP.mp hw
  ·exact nomatch hw
 ·obtain⟨o,m,e⟩:=Lx.mp hw
  unfold bP at m;obtain⟨j,k,rfl⟩:=Lx.mp m;have k:=List.mem_range.mp k;rw[aO hq a0]at k
  injection e with e1 e2
  injection e2 with e2 _
  subst e1;subst e2
  refine⟨_,_,⟨0,0,a,j+1,a0,Lb _,⋯,⋯,rfl⟩,⟨0,j+1,a,c,a0,Lb _,⋯,Lb _,rfl⟩,q0R aT (jN hq),q0R aT (jR hq),?_⟩;rw[g a0 (Lb _) ⋯ ⋯,g a0 (Lb _) ⋯ (Lb _),all,<- Nat.mul_add]
  congr 1;omega
 ·obtain⟨o,m,e⟩:=Lx.mp hw
  unfold bP at m;obtain⟨j,k,rfl⟩:=Lx.mp m;have k:=List.mem_range.mp k;rw[hq.1]at k
  injection e with e1 e2
  injection e2 with e2 _
  subst e1;subst e2
  refine⟨_,_,⟨0,0,j+1,c,⋯,⋯,c0,Lb _,rfl⟩,⟨j+1,0,a,c,⋯,Lb _,c0,Lb _,rfl⟩,q0R aT (jD hq),q0R aT (jM hq),?_⟩;rw[g ⋯ ⋯ c0 (Lb _),g ⋯ (Lb _) c0 (Lb _),all,<- Nat.add_mul]
  congr 1;omega
 ·exact nomatch KP.mp hw
structure ES(rs:Yaa)(nms:List (List Nat))(p:aL)(r c:Nat)(dn:LW)(tb:Tb):Prop where
 nd:(tb.map (·.1)).Nodup
 key:∀k v,aF tb k=some v->tx k.1∈dn/\k.2∈nms/\Dv rs k v/\1<=v
 bnd:∀k v,aF tb k=some v->∀q,a_ p r c q->k.1=aT q->v+585<=1170*(aH q:Int)
 don:∀z∈dn,∃q,a_ p r c q/\z=tx (aT q)
 tur:∀q,a_ p r c q->tx (aT q)∈dn->∀t,t<8->tx (aT (turned q t))∈dn
 prt:∀q,a_ p r c q->tx (aT q)∈dn->∀x∈rs,∀w∈bQ x q,∀k∈w,tx k.1∈dn
 clo:∀q,a_ p r c q->tx (aT q)∈dn->Hy rs (aF tb) q
structure fq(rs:Yaa)(nms:List (List Nat))(p:aL)(r c:Nat):Prop where
 hp:rect p r c
 r0:0<r
 c0:0<c
 r6:r<=6
 c6:c<=6
 ns:bV p
 gd:∀x∈rs,rO x
 nm:∀x∈rs,x.2.n∈nms
 n8:nms.length<=8
 r24:rs.length<=24
theorem fq.turn3(E:fq rs nms p r c){x:Nat×RV}(h:x∈pj rs):HB rs nms x:=by
 obtain⟨h1,h2⟩:=List.mem_filter.mp h;have h3:x.1=3:=by simpa using h2
 have g:=(E.gd x h1).good;exact⟨h1,⋯,g.c1,g.c9,g.t0,g.t7,E.nm x h1⟩
structure uq(rs:Yaa)(p:aL)(r c:Nat)(dn:LW)(q:aL):Prop where
 sq:a_ p r c q
 fr:∀t,t<8->tx (aT (turned q t))∉dn
 pt:∀q',a_ p r c q'->aH q'<aH q->tx (aT q')∈dn
theorem uq.parts{dn:LW}(E:fq rs nms p r c)(N:uq rs p r c dn q){t:Nat}(ht:t<8){x:Nat×RV}(hx:x∈rs)(h3:x.1≠3){w:List Ky}(hw:w∈bQ x (turned q t)){k:Ky}(hk:k∈w):∃q',a_ p r c q'/\k.1=aT q'/\tx k.1∈dn:=by
 have g:=E.gd x hx;obtain⟨a,b,h1,h2,l,_⟩:=N.sq.rect E.hp;obtain⟨q',e,j,h⟩:=jv E.hp (N.sq.turned E.hp ht) g.good.t0 g.good.t7 hw hk;rcases h with h | h
 ·rw[dW h1 h2 l]at h
  exact⟨q',e,j,by rw[j];exact N.pt q' e h⟩
 ·have:=g.k4
  omega
theorem uq.notIn{nms:List (List Nat)}{dn:LW}(N:uq rs p r c dn q){k:Ky}(h:tx k.1∈dn){t:Nat}(ht:t<8):k.1≠aT (turned q t):=λe=>N.fr t ht (by rw[<- e];exact h)
theorem i9(hp:rect p r c)(r6:r<=6)(c6:c<=6)(h:a_ p r c q):∃a b,i' q a b:=by
 obtain⟨a,b,h1,h2,e,h4,h5⟩:=h.rect hp;exact⟨a,b,h1,h2,⋯,e,⋯⟩
theorem ES.pta{dn:LW}(E:fq rs nms p r c)(N:uq rs p r c dn q)(S:ES rs nms p r c dn tb):∀n,n<=8->DO rs (fg rs) q tb (pta rs (fg rs) q tb n) n:=
 vf (a:=0) (c:=0) (λx hx=>(E.gd x hx).k4) (λt ht=>i9 E.hp E.r6 E.c6 (N.sq.turned E.hp ht)) λt ht x hx h3 w hw k hk t' ht'=>by
  obtain⟨_,_,_,h⟩:=N.parts E ht hx h3 hw hk;exact N.notIn (nms:=nms) h ht'
theorem fG(hp:rect p r c)(h:a_ p r c q):1<=aH q:=by
 obtain⟨a,b,h1,h2,e,_⟩:=h.rect hp;unfold aH;rw[h1.1,aO h1 h2];exact Nat.mul_pos h2 e
set_option tactic.hygienic true in
theorem ES.start{dn:LW}{tb8:Tb}(E:fq rs nms p r c)(N:uq rs p r c dn q)(S:ES rs nms p r c dn tb)(PS:DO rs (fg rs) q tb tb8 8) :
  TI (pj rs) rs q nms (1170*aH q-1161) tb8.length tb8 tb8 (λk=>k∈CK q nms/\∃v,aF tb8 k=some v):=by
 have hcp:=fG E.hp N.sq;have new:∀k∈CK q nms,∀v,aF tb8 k=some v->Dv rs k v/\1<=v/\v<=((1170*aH q-1161:Nat):Int):=by
  intro k hk v hv;rcases PS.val k v hv with h | ⟨t,ht,x,hx,h3,w,hw,hc,rfl⟩
  ·obtain⟨t,ht,n,_,rfl⟩:=kQ.mp hk
   exact q0Q (S.key _ v h).1 (N.fr t ht)
  ·have g:=(E.gd x hx).good
   have hst:=N.sq.turned E.hp ht;have g1:=g.c1;have g9:=g.c9;refine⟨D8 hx (b7 E.hp E.ns hst) hw hc λk hk u hu=>(S.key k u hu).2.2.1,?_⟩;rcases mJ hw with rfl | ⟨k,rfl⟩ | ⟨k1,k2,rfl⟩
   ·injection hc with hc
    omega
   ·obtain⟨a,b,h1,h2,h4,_⟩:=hst.rect E.hp
    rcases rF h1 h2 h4 hw (KP.mpr rfl) with⟨t,l,b,y,k1,k2,k3,k4,k5,k6,k7⟩ | ⟨k1,_⟩
    ·exfalso
     unfold bQ at hw
     split at hw
     ·split at hw
      ·exact nomatch KP.mp hw
      ·exact nomatch hw
     ·obtain⟨_,_,e⟩:=Lx.mp hw;exact nomatch e
     ·obtain⟨_,_,e⟩:=Lx.mp hw;exact nomatch e
     ·rename_i y z0 z1 z2
      rcases hh:x.1 with _ | _ | _ | n
      ·exact q0Q hh z0
      ·exact q0Q hh z1
      ·exact q0Q hh z2
      ·omega
    ·have:=(E.gd x hx).k4
     omega
   ·obtain⟨u1,u2,e1,e2,rfl⟩:=p6 hc
    obtain⟨a,b,h1,h2,h4,_⟩:=hst.rect E.hp;obtain⟨q1,q2,⟨t1,l1,b1,x1,m1,m2,m3,m4,rfl⟩,⟨t2,l2,b2,x2,n1,n2,n3,n4,rfl⟩,f1,f2,f3⟩:=DD h1 h2 h4 hw;rw[dW (N.sq.rect E.hp).choose_spec.choose_spec.1 (N.sq.rect E.hp).choose_spec.choose_spec.2.1 (N.sq.rect E.hp).choose_spec.choose_spec.2.2.1]at f3;have o1:=S.bnd k1 u1 e1 _ (hst.cut E.hp h1 m1 m2 m3 m4) f1;have o2:=S.bnd k2 u2 e2 _ (hst.cut E.hp h1 n1 n2 n3 n4) f2;have p1:=(S.key k1 u1 e1).2.2.2;have p2:=(S.key k2 u2 e2).2.2.2;omega
 refine⟨PS.nd S.nd,wb.refl _,λ_ _=>rfl,λk hk v hv=>(new k hk v hv).1,λk hk v hv no=>q0Q ⟨hk,v,hv⟩ no,λk ho=>ho,λk hk v hv=>?_,Nat.le_add_right _ _⟩;have:=new k hk v hv;exact⟨this.2.1,⋯⟩
theorem ES.enter{dn dn':LW}{tb8 tb':Tb}(E:fq rs nms p r c)(N:uq rs p r c dn q)(S:ES rs nms p r c dn tb)(PS:DO rs (fg rs) q tb tb8 8)
  (h:TI (pj rs) rs q nms (1170*aH q-1161) tb8.length tb8 tb' (λ_=>False)) (hd:∀z,z∈dn'↔z∈dn\/∃t,t<8/\z=tx (aT (turned q t))):ES rs nms p r c dn' tb':=by
 have hcp:=fG E.hp N.sq;obtain⟨a0,b0,D,C,B,_⟩:=N.sq.rect E.hp;have U:∀t,t<8->we (turned q t):=λt j=>b7 E.hp E.ns (N.sq.turned E.hp j);have ck:∀k,k∉CK q nms->∀v,aF tb' k=some v->aF tb k=some v:=λk b v o=>by
  rw[h.out k b]at o;rcases PS.val k v o with e | ⟨t,j,x,G,_,w,_,_,rfl⟩
  ·exact e
  ·exact q0Q (kQ.mpr ⟨t,j,_,E.nm x G,rfl⟩) b
 have old:∀k:Ky,tx k.1∈dn->aF tb' k=aF tb k:=λk b=>by
  have nc:∀t,t<8->k.1≠aT (turned q t):=λt j=>N.notIn (nms:=nms) b j;rw[h.out k λe=>by obtain⟨t,j,n,_,rfl⟩:=kQ.mp e;exact nc t j rfl,PS.out k nc]
 have h64:=ij (CK q nms) tb';have hl:=t_ q nms;have n8:=E.n8;have O:∀{l:aL},a_ p r c l->tx (aT l)∈dn'->tx (aT l)∈dn\/∃t,t<8/\l=turned q t:=fun{l} y L=>by
  rcases(hd _).mp L with h | ⟨t,j,e⟩
  ·exact .inl h
  ·exact .inr ⟨t,j,(b7 E.hp E.ns y).inj (U t j) (eD e)⟩
 refine⟨h.nd,λk v o=>?_,λk v o l y e=>?_,λz L=>?_,λl y L t j=>?_,λl y L x G w I k b=>?_,λl y L x G w I v o=>?_⟩
 ·by_cases b:k∈CK q nms
  ·obtain⟨t,j,n,hn,rfl⟩:=kQ.mp b
   exact⟨(hd _).mpr (.inr ⟨t,j,rfl⟩),hn,h.snd _ b v o,(h.pos _ b v o).1⟩
  ·obtain⟨k1,k2⟩:=S.key k v (ck k b v o)
   exact⟨(hd _).mpr (.inl k1),k2⟩
 ·by_cases b:k∈CK q nms
  ·have:=(h.pos _ b v o).2
   obtain⟨t,j,n,hn,rfl⟩:=kQ.mp b;have Z:=(U t j).inj (b7 E.hp E.ns y) e;rw[<- Z,dW D C B];omega
  ·exact S.bnd k v (ck k b v o) l y e
 ·rcases(hd z).mp L with h1 | ⟨t,j,rfl⟩
  ·exact S.don z h1
  ·exact⟨_,N.sq.turned E.hp j,rfl⟩
 ·rcases O y L with h1 | ⟨u,J,rfl⟩
  ·exact(hd _).mpr (.inl (S.tur l y h1 t j))
  ·exact(hd _).mpr (.inr ⟨after u t,gZ J j,by rw[bK D C B J j]⟩)
 ·rcases O y L with h1 | ⟨u,J,rfl⟩
  ·exact(hd _).mpr (.inl (S.prt l y h1 x G w I k b))
  ·have g:=(E.gd x G).good
   by_cases Y:x.1=3
   ·rw[lY ⋯]at I
    rw[KP.mp I]at b;rw[KP.mp b];have T:di x.2.t.toNat<8:=eu (by have:=g.t0;have:=g.t7;omega);exact(hd _).mpr (.inr ⟨after u (di x.2.t.toNat),gZ J T,by rw[bK D C B J T]⟩)
   ·obtain⟨_,_,_,h5⟩:=N.parts E J G Y I b
    exact(hd _).mpr (.inl h5)
 ·rcases O y L with h1 | ⟨u,J,rfl⟩
  ·rw[jB (T':=aF tb) λk b=>old k (S.prt l y h1 x G w I k b)]at o
   rw[old (aT l,x.2.n) h1];exact S.clo l y h1 x G w I v o
  ·have g:=(E.gd x G).good
   by_cases Y:x.1=3
   ·have M:x.2.t.toNat<8:=by have:=g.t0;have:=g.t7;omega
    have T:di x.2.t.toNat<8:=eu M;rw[lY ⋯]at I;rw[KP.mp I]at o;obtain⟨a,ha,rfl⟩:=lL o;have R:=gZ J T;have a1:=cC D C B u;have et:turned (turned q u) (di x.2.t.toNat)=turned q (after u (di x.2.t.toNat)):=bK D C B J T;rw[et]at ha
    by_cases b:(aT (turned q (after u (di x.2.t.toNat))),x.2.o1)∈CK q nms
    ·obtain⟨v',l',Z⟩:=h.sett _ b a ha id x (List.mem_filter.mpr ⟨G,by simpa using Y⟩) rfl _ R rfl
     refine⟨v',⋯,?_⟩;have e2:turned q (after (after u (di x.2.t.toNat)) x.2.t.toNat)=turned q u:=by
      rw[<- bK D C B R M,<- et,bK a1 (by split<;>assumption) (by split<;>assumption) T M,kW M,eX]
     unfold gU at Z;rw[e2]at Z;exact Z
    ·exact q0Q (S.key _ a (ck _ b a ha)).1 (N.fr _ R)
   ·have hc:bW (aF tb) x.2.c w=some v:=by
     rw[<- o];exact jB λk b=>by
      obtain⟨_,_,_,h5⟩:=N.parts E J G Y I b;exact(old k h5).symm
    obtain⟨m,hm⟩:=List.mem_iff_getElem?.mp G;obtain⟨v1,l1,e1⟩:=PS.all u J m (kY.mpr ⟨x,hm,Y⟩) x hm w I v hc;obtain⟨v2,l2,e2⟩:=h.le _ _ e1;exact⟨v2,Int.le_trans l2 l1,e2⟩
abbrev sO:Stmt:=fY 57
inductive oZ(vs:List V)(H:Hp)(Q:VK)(_E:XK):Prop
 |mk (d b:Addr) (tb:Tb) (k:Ky) (v:Int) (_:vs=[.ref d,.ref b,.int v]) (_:cB H d tb) (_:br H b k) (_:tb.length<sizeLine) (_:∀H',cB H' d (dZ tb k v)->bv d H H'->Q (.bl (ip tb k v)) H')
theorem Cp:aG ["told","key","cost"] ["told","key","cost"] (aq sO):=by walk_at "c"
theorem BG{f:Addr}(F:dG K "lower" "lower" sO f fd)(nb:NB mg):↑bj 1 f fd ["told","key","cost"] oZ:=by
 have sc:=Cp;walk_at "f"
 ·obtain⟨d,b,tb,k,v,rfl,n,o,p,q⟩:=h
  have m:=n.told.get o;have l:=hr.units;have fin:ip tb k v=true->∀H2,H2=aD H d (.dT (dL (tb.map uy) (kO k) (.int v)))->Q (.bl true) H2:=λa H2 e=>by
   have r:dZ tb k v=qN tb k v:=by unfold dZ;rw[q07 a]
   have:=q H2 (by rw[r,e,Bo];exact af) (by rw[e];exact(bv.of λ_ _ h=>h).put)
   rwa [a]at this
  have c:yR H d (.ref b) (.int v) (aD H d (.dT (dL (tb.map uy) (kO k) (.int v)))):=yR.t n o (by rw[KO];exact p);refine⟨_,(ae (bL (PW.pt (gK (mD (Cd (Lv (LA (by decide:1<=64) _) l) (al 1) (al 0)) (by with_unfolding_all rfl)) (fB (aN (bC.m0 pZ) (lD (Lv (LA (by decide:1<=64) _) l) (al 0) (al 1) (λ_ _=>rfl)) (al 2) (aR _)))))
   (ag (aM nj))
   aW)
   (ae (tQ (Lv (LA (by decide:1<=64) _) l) (al 0) (al 1) (al 2) rfl)
   (ag (aM nj)))),?_⟩
  symm;refine⟨_,m,?_⟩;cases j:aF tb k with
  |none=>
   rw[q06 (by simp)];refine h1 _ _ ?_;ext;exact⟨_,c,fin (by unfold ip;rw[j]) _ rfl⟩
  |some u=>
   rw[j]at m;rw[q07 (by rfl)];refine⟨_,m,u,rfl,?_⟩
   by_cases g:u<=v
   ·rw[q07 g]
    have a:ip tb k v=false:=by unfold ip;rw[j];simp;omega
    have:=q H (by unfold dZ;rw[a];exact n) (bv.of λ_ _ h=>h)
    rwa [a]at this
   ·rw[q06 g]
    refine h1 _ _ ?_;ext;exact⟨_,c,fin (by unfold ip;rw[j];simp;omega) _ rfl⟩
abbrev fK:Stmt:=fY 56
inductive iS(R:RC)(CG CC:Addr)(vs:List V)(H:Hp)(Q:VK)(_E:XK):Prop
 |mk (g dx ln cu d:Addr) (sg st:LO) (as:LR) (rs:Yaa) (ns:LO) (p:aL) (r c:Nat) (tb:Tb) (_:vs=[.ref g,.ref ln,.ref cu,.ref d]) (_:cT R H CG dx g sg st as rs) (_:(∀r∈rs,rO r)) (_:H ln=some (.lst (wj ns))) (_:(∀n∈ns,n<rs.length)) (_:ns.length<=100) (_:fj CC H cu p) (_:i' p r c) (_:cB H d tb) (_:tb.length<=10000000) (_:∀H',cB H' d (GN rs ns p tb)->bv d H H'->Q .non H')
theorem nA:aG ["grammar","numbers","cuts","told","cost","number","way"] ["grammar","numbers","cuts","told"] (aq fK):=by walk_at "c"
theorem nN{f:Addr}(F:dG K "put_together" "put_together" fK f fd)(nb:NB mg)(rk:ki K R)(clC:jA K CC)(naC:Dg K CC)(yae:↑hZ 1 CG "rule" ["self","k"] (dR R CG))(yak:↑dF 6 "coming" ["grammar","numbers","cuts","told"] (lZ R CG CC))(yaj:↑dF 1 "lower" ["told","key","cost"] oZ):↑bj 7 f fd ["grammar","numbers","cuts","told"] (iS R CG CC):=by
 have sc:=nA;walk_at "f"
 ·obtain⟨g,dx,ln,cu,d,sg,st,as,a,ns,p,r,c,tb,rfl,hG,hg,a6,G,o,hC,hp,hT,htl,q⟩:=h
  have hu:=hr.units;refine⟨_,(ag (bF PassesOwn.never rfl (bR (q00 yak hr (ac (al 0) (ac (al 1) (ac (al 2) (ac (al 3) ad)))))) (ik (n:=3) rfl (aV (q02 4 sc.nd) (aV (q02 5 sc.nd) (aV (q02 6 sc.nd) du))))
   (ag (bi (q00 yaj hr (ac (al 3) (ac (bD (ac (cq (al 2) rfl) (ac (cq (jJ yae (hr.mono b⁻¹) aK (al 0) (ac (al 5) ad)) rfl) ad))) (ac (al 4) ad)))))))),?_⟩
  ext;refine⟨g,dx,ln,cu,d,sg,st,as,a,ns,p,r,c,aF tb,rfl,hG,hg,a6,G,o,hC,hp,hT.told,λl H1 hl hL O=>?_⟩;obtain⟨bs,hb,L⟩:=hL
  replace L:=L.mono λ_ _ _ _ h=>yC.old h
  have u:cB H1 d tb:=hT.up O;have b0:=hG.up O;have b1:=hC.up O;have a1:=iG (T:=aF tb) hp (λr hr=>(hg r hr).k4) ns;have z:∀y∈ns.flatMap (cE (aF tb) a p),y.2.1∈ns:=λy S=>(mG S).1;have a5:GN a ns p tb=qM a p tb (ns.flatMap (cE (aF tb) a p)):=rfl;rw[a5]at q;generalize ns.flatMap (cE (aF tb) a p)=ys at L a1 z q;have a8:=L.1;refine⟨l,rfl,⟨_,aQ.of hb⟩,?_⟩;refine b5 (xs:=bs.map V.ref) (λi σ v=>bv d H1 v/\cB v d (qM a p tb (ys.take i))/\i<=bs.length/\∃Z Y U,σ=[some (V.ref g),some (V.ref ln),some (V.ref cu),some (V.ref d),Z,Y,U]) ⟨bv.of λ_ _ h=>h,u,Lc _,_,_,_,rfl⟩ (λi σ v _ h=>aQ.of ((h.1.kp u).lst hb)) ?_ ?_
  ·rintro i x σ v hx ⟨M,k,_,Z,Y,U,rfl⟩
   rw[KQ]at hx;obtain⟨b,I,rfl⟩:=Lf.mp hx;have hi:=(KM.mp I).1;obtain⟨y,S,a2⟩:=L.get I;have kp:=M.kp u;obtain⟨lw,a9,_⟩:=a2.kp kp;obtain⟨j,m⟩:∃j,a[y.2.1]?=some j:=⟨_,KL (G _ (z y (KR S)))⟩;have J:=b0.kp kp;obtain⟨dxc,lp,lb,la,a7,_⟩:=b1.kp kp;obtain⟨lk,pn,t0,ha,hkk,C,hN,hmm⟩:=id J;obtain⟨ra,D⟩:∃b,as[y.2.1]?=some b:=⟨_,KL (by rw[C.1];exact(KM.mp m).1)⟩;obtain⟨rdx,rl,a4,_⟩:=C.2 _ ra j D m;ext;refine⟨_,cR.of a9,rfl,_,_,rfl,_,_,rfl,_,_,rfl,rfl,?_⟩;refine⟨_,_,_,a7,clC,naC.2.1,_,rfl,dx,_,ha,rfl,g,dx,sg,st,as,a,y.2.1,ra,rfl,J,D,?_⟩;refine⟨ra,rfl,_,_,_,a4,(rk.icls j.1).cl,(rk.name j.1).1,_,(jE rl j.2 j.1).1,au b⁻¹,λtp B=>?_⟩;have hps:=(mI a p (ys.take i) tb).len;have htk:(ys.take i).length<=ys.length:=by rw[Lq];omega
   refine⟨d,tp,qM a p tb (ys.take i),(aT p,j.2.n),y.1,rfl,k.up (aj B),af,?_,λH2 a3 a0=>⟨M.trans ((bv.of (aj B)).trans a0),?_,hi⟩⟩
   ·have:=q0W;omega
   ·have e:qM a p tb (ys.take (i+1))=dZ (qM a p tb (ys.take i)) (aT p,j.2.n) y.1:=by
     unfold qM;rw[q0E,S,List.foldl_append];show dZ _ (aT p,mT a y.2.1) y.1=_;rw[show mT a y.2.1=j.2.n by unfold mT;rw[m]]
    rw[e];exact a3
  ·rintro σ v ⟨M,k,_,Z,Y,U,rfl⟩
   rw[KO,a8,Lp]at k;exact q v k ((bv.of O).trans M)
abbrev ue:Stmt:=fY 22
inductive vY(vs:List V)(H:Hp)(Q:VK)(_E:XK):Prop
 |mk (t u:Nat) (_:vs=[.int (t:Int),.int (u:Int)]) (_:t<8) (_:u<8) (_:Q (.int (after t u:Nat)) H)
theorem AA:aG ["t","u"] ["t","u"] (aq ue):=by walk_at "c"
theorem CM{f:Addr}(F:dG K "after" "after" ue f fd):↑bj 1 f fd ["t","u"] vY:=by
 have sc:=AA;walk_at "f"
 ·obtain⟨t,u,rfl,ht,hu,q⟩:=h
  refine⟨_,(ae (bL (aN ot (pv 1) ai (aR _))
   (ag (aM (aw bU (aw d8 (aw bg (pv 0) ai) ai) (aw bf (aw bU (pv 0) (pv 1)) ai))))
   aW)
   (ag (aM (aw bU (aw d8 (aw kL ai (aw bg (pv 0) ai)) ai) (aw bf (aw kL (pv 1) (pv 0)) ai))))),?_⟩
  ext
  split
  ·have e:((after t u:Nat):Int)=(t:Int)/4*4+((t:Int)+u)%4:=by unfold after;rw[q07 ⋯];omega
   rw[<- e];exact q
  ·have e:((after t u:Nat):Int)=(1-(t:Int)/4)*4+((u:Int)-t)%4:=by unfold after;rw[q06 ⋯];omega
   rw[<- e];exact q
theorem bp.app{β:Type}{A:Hp->Addr->β->Prop}:∀{bs2:LR} {ys2:List β} {bs:LR} {ys:List β},bp A H bs ys->bp A H bs2 ys2->bp A H (bs++bs2) (ys++ys2)
 | [],[],bs,ys,h,_=>by rw[Lm,Lm];exact h
 | [],_::_,_,_,_,h2=>nomatch h2.1
 |_::_,[],_,_,_,h2=>nomatch h2.1
 |b::bs2,y::ys2,bs,ys,h,h2=>by
  have h3:bp A H bs2 ys2:=⟨Nat.succ.inj h2.1,λi c z e1 e2=>h2.2 (i+1) c z e1 e2⟩;have:=bp.app (h.snoc (h2.2 0 b y rfl rfl)) h3
  rwa [Ln,Ln]at this
theorem uR{H:Hp}{Q:VK}{neg:Bool}(ha:H a=some (.lst xs))(hb:H b=some (.lst []))(q:Q (.bl (xs.isEmpty != neg)) H):DB K neg (.ref a) (.ref b) H Q:=by
 cases xs with
 |nil=>
  refine .inl ⟨[],by unfold Dt.deps;omega,.inl ⟨?_,?_⟩,by simpa using q⟩
  ·unfold iP;exact⟨a,_,rfl,aQ.of ha,by unfold dB;rfl⟩
  ·unfold iP;exact⟨b,_,rfl,aQ.of hb,by unfold dB;rfl⟩
 |cons x xs=>exact .inr ⟨a,b,_,_,rfl,rfl,aQ.of ha,aQ.of hb,by simp,by simpa using q⟩
def fz(q:aL):List Str:=(List.range 8).map λt=>tx (aT (turned q t))
def kg(q:aL)(ns:List (List Nat))(tb:Tb)(n:Nat):List Ky:=((List.range n).flatMap λt=>ns.map λn=>(aT (turned q t),n)).filter λk=>(aF tb k).isSome
theorem qb(q:aL)(ns:List (List Nat))(tb:Tb)(n:Nat):kg q ns tb (n+1)=kg q ns tb n++ns.filterMap λm=>if(aF tb (aT (turned q n),m)).isSome=true then some (aT (turned q n),m) else none:=by
 unfold kg;rw[q0M,List.flatMap_append,List.filter_append]
 congr 1
 rw[show([n].flatMap λt=>ns.map λn=>(aT (turned q t),n))=ns.map λm=>(aT (turned q n),m) by simp]
 induction ns with
 |nil=>rfl
 |cons m ns ih=>
  rw[Lh,List.filter_cons,q0U];cases h:(aF tb (aT (turned q n),m)).isSome with
  |true=>simp only[q07];rw[ih]
  |false=>simp only[q0a,if_false];exact ih
theorem ma(q:aL)(ns:List (List Nat))(tb:Tb):∀n,(kg q ns tb n).length<=n*ns.length
 |0=>by simp[kg]
 |n+1=>by
  rw[qb,La,Nat.add_mul,Nat.one_mul];exact Nat.add_le_add (ma q ns tb n) (List.length_filterMap_le _ _)
theorem rh{ns:List (List Nat)}{k:Ky}:k∈kg q ns tb 8↔k∈CK q ns/\∃v,aF tb k=some v:=by
 unfold kg;rw[List.mem_filter,Option.isSome_iff_exists];rfl
theorem u9{z:Str}:∀{ts:LW},z∈ts->∃j:Nat,ts[j]?=some z/\∀(m:Nat) (y:Str),m<j->ts[m]?=some y->y≠z
 | [],h=>nomatch h
 |x::ts,h=>by
  by_cases e:x=z
  ·exact⟨0,by rw[e];rfl,λm y hm=>q0Q hm (Nat.not_lt_zero _)⟩
  ·rcases K5.mp h with h | h
   ·exact q0Q h.symm e
   ·obtain⟨j,h1,h2⟩:=u9 h
    refine⟨j+1,h1,λm y hm hy=>?_⟩;cases m with
    |zero=>rw[List.getElem?_cons_zero]at hy;cases hy;exact e
    |succ m=>exact h2 m y ⋯ hy
theorem E_{t:Nat}{z:Str}(h:(fz q)[t]?=some z):t<8/\z=tx (aT (turned q t)):=by
 unfold fz at h;rw[KQ]at h;obtain⟨x,a,rfl⟩:=Lf.mp h;have b:=(KM.mp a).1;rw[q0J]at b;rw[List.getElem?_range b]at a;cases a;exact⟨b,rfl⟩
theorem CA{t:Nat}(h:t<8):(fz q)[t]?=some (tx (aT (turned q t))):=by
 unfold fz;rw[KQ,List.getElem?_range h];rfl
inductive Ik(H:Hp)(q:aL)(ns:List (List Nat))(tb0:Tb)(lr lt ln d l:Addr)(i:Nat)(H':Hp):St->Prop
 |mk (bs:LR) (x5 x6 x7 x8 x9:Option V) (_:az H H') (_:H' l=some (.lst (bs.map V.ref))) (_:bp br H' bs (kg q ns tb0 i)):Ik H q ns tb0 lr lt ln d l i H' [some (V.ref lr),some (V.ref lt),some (V.ref ln),some (V.ref d),some (V.ref l),x5,x6,x7,x8,x9]
inductive H_(H:Hp)(trs rs:Yaa)(q:aL)(ns:List (List Nat))(M L0:Nat)(tb0:Tb)(lr lt ln d:Addr)(m:Nat)(H':Hp):St->Prop
 |mk (tb:Tb) (chs:List Ky) (l2:Addr) (cs:LR) (x5 x6 x7 x8 x9:Option V) (_:bv d H H') (_:cB H' d tb) (_:H' l2=some (.lst (cs.map V.ref))) (_:bp br H' cs chs) (_:TI trs rs q ns M L0 tb0 tb (λk=>k∈chs)) (_:chs.length<=8000000) (_:m=EU (CK q ns) (M+576) tb+(if chs=[] then 0 else 1)):H_ H trs rs q ns M L0 tb0 lr lt ln d m H' [some (V.ref lr),some (V.ref lt),some (V.ref ln),some (V.ref d),some (V.ref l2),x5,x6,x7,x8,x9]
structure HW(trs rs:Yaa)(q:aL)(ns:List (List Nat))(M L0:Nat)(tb0 tb:Tb)(all:List Ky)(d l2 lw:Addr)(cs:LR)(H H':Hp)(i:Nat)(tb5:Tb)(ws:LR)(lws:List Ky):Prop where
 sx:bv d H H'
 l:H' l2=some (.lst (cs.map V.ref))
 cA:bp br H' cs all
 T:cB H' d tb5
 w:H' lw=some (.lst (ws.map V.ref))
 wA:bp br H' ws lws
 I:TI trs rs q ns M L0 tb0 tb5 (λk=>k∈all.drop i\/k∈lws)
 m:EU (CK q ns) (M+576) tb5+lws.length<=EU (CK q ns) (M+576) tb
inductive Im(trs rs:Yaa)(q:aL)(ns:List (List Nat))(M L0:Nat)(tb0 tb:Tb)(all:List Ky)(lr lt ln d l2 lw:Addr)(cs:LR)(H H':Hp)(i:Nat):St->Prop
 |mk (tb5:Tb) (ws:LR) (lws:List Ky) (x5 x7 x8 x9:Option V) (_:HW trs rs q ns M L0 tb0 tb all d l2 lw cs H H' i tb5 ws lws):Im trs rs q ns M L0 tb0 tb all lr lt ln d l2 lw cs H H' i [some (V.ref lr),some (V.ref lt),some (V.ref ln),some (V.ref d),some (V.ref l2),x5,some (V.ref lw),x7,x8,x9]
inductive Iq(trs rs:Yaa)(q:aL)(ns:List (List Nat))(M L0:Nat)(tb0 tb:Tb)(all:List Ky)(lr lt ln d l2 lw:Addr)(cs:LR)(H:Hp)(i t:Nat)(k:Ky)(v:Int)(H':Hp)(j:Nat):St->Prop
 |mk (tb5:Tb) (ws:LR) (lws:List Ky) (x8 x9:Option V) (_:HW trs rs q ns M L0 tb0 tb all d l2 lw cs H H' i tb5 ws lws) (_:aF tb5 k=some v) (_:∀r∈trs.take j,r.2.o1=k.2->∃v',v'<=v+r.2.c/\aF tb5 (gU q r t)=some v'):Iq trs rs q ns M L0 tb0 tb all lr lt ln d l2 lw cs H i t k v H' j [some (V.ref lr),some (V.ref lt),some (V.ref ln),some (V.ref d),some (V.ref l2),some (V.str (tx k.1)),some (V.ref lw),some (V.str (tx k.2)),x8,x9]
abbrev iE:Stmt:=fY 58
theorem v7{tb:TS}{σ:St}(h:∀tb',tb'=tb->qc c tb' D σ H):qc c tb D σ H:=h tb rfl
theorem zk{n:Nat}(h:n<=8000000):n<sizeLine:=by have:=q0W;omega
inductive j4(R:RC)(vs:List V)(H:Hp)(Q:VK)(_E:XK):Prop
 |mk (lr lt ln d:Addr) (as:LR) (trs rs:Yaa) (q:aL) (a c:Nat) (ns:List (List Nat)) (M L0:Nat) (tb0:Tb) (_:vs=[.ref lr,.ref lt,.ref ln,.ref d]) (_:H lr=some (.lst (as.map V.ref))) (_:bO R H as trs) (_:H lt=some (.lst ((fz q).map V.str))) (_:H ln=some (.lst (ns.map λn=>V.str (tx n)))) (_:cB H d tb0) (_:rect q a c) (_:0<a) (_:0<c) (_:(∀t,t<8->we (turned q t))) (_:ns.length<=8) (_:(∀r∈trs,HB rs ns r/\r.1=3)) (_:TI trs rs q ns M L0 tb0 tb0 (λk=>k∈CK q ns/\∃v,aF tb0 k=some v)) (_:M<=100000) (_:L0<=10000000) (_:∀H' tb',cB H' d tb'->TI trs rs q ns M L0 tb0 tb' (λ_=>False)->bv d H H'->Q .non H')
theorem qh:aG ["rules","texts","names","told","changed","text","lowered","name","rule","key"] ["rules","texts","names","told"] (aq iE):=by walk_at "c"
theorem qk{f:Addr}(F:dG K "turn_about" "turn_about" iE f fd)(nb:NB mg)(rk:ki K R)(yaT:↑dF 1 "after" ["t","u"] vY)(yaj:↑dF 1 "lower" ["told","key","cost"] oZ):↑bj 2 f fd ["rules","texts","names","told"] (j4 R):=by
 have sc:=qh;walk_at "f"
 ·obtain⟨lr,lt,ln,d,as,trs,rs,q,a,c,ns,M,L0,tb0,rfl,hlr,hrs,hlt,hln,hT,hq,a0,c0,hO,h8,hR,hTI,hM,hL0,qq⟩:=h
  have hu:=hr.units;refine⟨_,(ae (q01 4 sc.nd (bI ad))
   (ae (bF PassesOwn.never rfl (bR (al 1)) (ay (i:=5) sc.nd rfl (Or.inr rfl))
   (ag (bi (cP PySem.F.plainAttrs_list PySem.F.slot_list_extend PySem.F.type_list_extend Ae (al 4) (ac (cH ["name"] [5,3] rfl (bY.of f⁻¹) f⁻¹ (bR (al 2))
    (λ_ _ _ _=>(ay (i:=0) (by show(["name","text","told"]:List Str).Nodup;decide +kernel) rfl (Or.inl rfl))) (λ_ _ _ _=>(n_ (mD (Cd (Lv (LA (by decide:1<=64) _) hu) (bD (ac (al 1) (ac (al 0) ad))) (al 2)) (by with_unfolding_all rfl)))) (λ_ _ _ _=>(bD (ac (al 1) (ac (al 0) ad))))) ad)))))
   (ag (wd PassesOwn.never (aN (p_ hu) (al 4) (bI ad) (aR _)) (ae (q01 6 sc.nd (bI ad))
   (ae (bF PassesOwn.never rfl (bR (al 4)) (ik (n:=2) rfl (aV (ay (i:=5) sc.nd rfl (Or.inr rfl)) (aV (q02 7 sc.nd) du)))
   (ag (bF PassesOwn.never rfl (bR (al 0)) (q02 8 sc.nd)
   (ae (q01 9 sc.nd (bD (ac (aP aX (al 1) (q00 yaT hr (ac (cP PySem.F.plainAttrs_list PySem.F.slot_list_index PySem.F.type_list_index Al (al 1) (ac (al 5) ad)) (ac (cq (al 8) rfl) ad))) (λ_ _=>rfl)) (ac (cq (al 8) rfl) ad))))
   (ag (bL (PW.pt (gK (aN dz (cq (al 8) rfl) (al 7) (aR _)) (fB (g8 (q00 yaj hr (ac (al 3) (ac (al 9) (ac (aw (bC.m0 bU) (lD (Lv (LA (by decide:1<=64) _) hu) (al 3) (bD (ac (al 5) (ac (al 7) ad))) (λ_ _=>rfl)) (cq (al 8) rfl)) ad)))) λ_=>rfl))))
   (ag (bi (q03 (al 6) (ac (al 9) ad))))
   aW))))))
   (ag (q01 4 sc.nd (al 6))))))))),?_⟩
  symm;refine⟨Lc _,λl hl=>h1 _ _ ?_⟩;clear h1;generalize z0:aD H l _=H1;obtain⟨s1,e1⟩:=gP hl z0;symm;have hT1:cB H1 d tb0:=hT.up s1;have hcl:(fz q).length=8:=by unfold fz;rw[KO,q0J]
  refine⟨⟨_,aQ.of (s1 _ _ hlt)⟩,?_⟩;refine b5 (xs:=(fz q).map V.str) (λi σ H'=>Ik H q ns tb0 lr lt ln d l i H' σ) (.mk [] _ _ _ _ _ s1 e1 bp.nil) (λi σ H' _ h=>by cases h with | mk _ _ _ _ _ _ s=>exact aQ.of (s _ _ hlt)) ?_ ?_
  ·rintro i x σ H' hx ⟨bs,x5,x6,x7,x8,x9,sm,hb,hA⟩
   rw[KQ]at hx;obtain⟨z,hz,rfl⟩:=Lf.mp hx;have hi:i<8:=by have:=(KM.mp hz).1;omega
   have hz':z=tx (aT (turned q i)):=by
    unfold fz at hz;rw[KQ,List.getElem?_range hi]at hz;cases hz;rfl
   subst hz';ext;refine⟨.inl ⟨rfl,_,aQ.of hb⟩,⟨_,aQ.of (sm _ _ hln)⟩,?_⟩;refine m6 br br.up (as:=ns) (emb:=λn=>V.str (tx n)) (f:=λn=>if(aF tb0 (aT (turned q i),n)).isSome=true then some (aT (turned q i),n) else none) (λσ=>∃x,σ=[x,some (V.str (tx (aT (turned q i)))),some (V.ref d)]) ⟨_,rfl⟩ (λH2 s2=>aQ.of (s2 _ _ (sm _ _ hln))) ⋯ ?_ ?_
   ·rintro j n hn σ H2 M1 M0 ⟨x0,rfl⟩ s2 k1 k0
    have hT2:cB H2 d tb0:=(hT.up sm).up s2;ext;refine⟨au b⁻¹,λtp htp=>?_⟩;generalize z0:aD H2 tp _=H3;obtain⟨s3,(hk:br H3 tp (aT (turned q i),n))⟩:=gP htp z0;have hg:=(hT2.up s3).told.get hk;refine⟨_,hg,?_⟩;cases hv:aF tb0 (aT (turned q i),n) with
    |none=>
     rw[q06 (by simp)];exact k0 _ _ (by simp[hv]) (s2.trans s3) s3 ⟨_,rfl⟩
    |some v=>
     rw[q07 (by rfl)];exact⟨au b⁻¹,λt2 ht2=>k1 t2 (aT (turned q i),n) _ _ (by simp[hv]) af (s2.trans (s3.trans (aj ht2))) (s3.trans (aj ht2)) ⟨_,rfl⟩⟩
   ·intro bs2 H2 s2 hA2 l2 hl2
    generalize z0:aD H2 l2 _=H3;obtain⟨s3,e3⟩:=gP hl2 z0;have hb3:=s3 _ _ (s2 _ _ hb);have n1:=hA.1;have n2:=hA2.1;have n3:=ma q ns tb0 i;have n4:=List.length_filterMap_le (λn=>if(aF tb0 (aT (turned q i),n)).isSome=true then some (aT (turned q i),n) else none) ns;have n5:i*ns.length<=8*8:=Nat.mul_le_mul ⋯ h8;refine⟨_,hb3,_,e3,by rw[KO,KO];exact au ⋯,?_⟩;refine .mk (bs++bs2) _ _ _ _ _ (bE ((sm.trans s2).trans s3) hl) (by rw[af,K2]) ?_;rw[qb];exact bp.app (hA.mono λb y _ _ h=>((h.up s2).up s3).put hb3) (hA2.mono λb y _ _ h=>(h.up s3).put hb3)
  ·rintro σ H' ⟨bs,x5,x6,x7,x8,x9,sm,hb,hA⟩
   refine h1 _ _ ?_;rw[KO,hcl]at hA;ext;have hTI0:=hTI.op (op':=λk=>k∈kg q ns tb0 8) (λk hk=>rh.mp hk) (λk v ho no _=>q0Q (rh.mpr ho) no);have hch:(kg q ns tb0 8).length<=8*8:=Lj (ma q ns tb0 8) (Nat.mul_le_mul_left _ h8);have hT':cB H' d tb0:=hT.up sm;refine v7 λtw etw=>?_;refine⟨λm σ H2=>H_ H trs rs q ns M L0 tb0 lr lt ln d m H2 σ,⟨_,.mk tb0 _ l bs _ _ _ _ _ (bv.of sm) hT' hb hA hTI0 ⋯ rfl⟩,?_⟩;rintro m σ H2 ⟨tb,chs,l2,cs,y5,y6,y7,y8,y9,sx,hT2,hc2,hcA,hI,hcl2,hm⟩;ext;refine⟨Lc _,λlz hlz=>?_⟩;generalize z0:aD H2 lz _=H3;obtain⟨s3,e3⟩:=gP hlz z0;refine uR (s3 _ _ hc2) e3 ⟨_,rfl,?_⟩;cases chs with
   |nil=>
    have:cs=[]:=Lw.mp hcA.1;subst this;rw[q06 (by simp)];exact qq H3 tb (hT2.up s3) (hI.op (λk hk=>hk.elim) (λk v ho _ _=>nomatch ho)) (sx.then s3)
   |cons ch chs=>
    have hne:cs≠[]:=λe=>by rw[e]at hcA;exact nomatch hcA.1
    rw[q07 (by cases cs with | nil=>exact q0Q rfl hne | cons _ _=>rfl)];rw[etw];generalize hall:ch::chs=all at hcA hI hcl2 hm;have ybs:all≠[]:=λe=>nomatch hall.trans e;rw[q06 ybs]at hm;refine⟨_,λσ' H' h=>h,?_⟩;have hmu:=hI.mu h8;have hmu2:(M+577)*64<=8000000:=by omega
    have hT3:cB H3 d tb:=hT2.up s3;have sx3:=sx.then s3;have hc3:=s3 _ _ hc2;have hcA3:=hcA.mono λb y _ _ (h:br H2 b y)=>h.up s3;symm;refine⟨Lc _,λlw hlw=>h1 _ _ ?_⟩;clear h1;have s4:=aj (o:=.lst []) hlw;have e4:aD H3 lw (.lst []) lw=some (.lst []):=af;have hl2w:l2≠lw:=aI hc3 hlw;have hlw0:∀o,H lw=some o->lw=d:=λo h=>by
     by_cases e:lw=d
     ·exact e
     ·have:=sx3 lw o e h
      rw[hlw]at this;cases this
    have hlwd:lw≠d:=λe=>by
     rw[e]at hlw;rw[show H3 d=_ from hT3]at hlw;cases hlw
    generalize aD H3 lw (.lst [])=H4 at s4 e4 ⊢;symm;refine⟨⟨_,aQ.of (s4 _ _ hc3)⟩,?_⟩;refine b5 (xs:=cs.map V.ref) (λi σ H5=>Im trs rs q ns M L0 tb0 tb all lr lt ln d l2 lw cs H H5 i σ) ?_ (λi σ H5 _ h=>by cases h with | mk _ _ _ _ _ _ _ h=>exact aQ.of h.l) ?_ ?_
    ·exact .mk tb [] [] _ _ _ _ ⟨sx3.then s4,s4 _ _ hc3,hcA3.mono λb y _ _ h=>h.up s4,hT3.up s4,e4,bp.nil,hI.op (λk hk=>hk.elim id λz=>nomatch z) (λk v ho no _=>q0Q (.inl ho) no),Lb _⟩
    ·rintro i x σ H5 hx ⟨tb5,ws,lws,z5,z7,z8,z9,h5⟩
     rw[KQ]at hx;obtain⟨cb,hcb,rfl⟩:=Lf.mp hx;have hi:=(KM.mp hcb).1;obtain⟨k,hk,hkb⟩:=h5.cA.get hcb;have lU:=(KM.mp hk).1;have hdr:all.drop i=k::all.drop (i+1):=by
      rw[q0T lU];rw[KL lU]at hk;cases hk;rfl
     obtain⟨hkC,v,hv⟩:=h5.I.opk k (.inl (by rw[hdr];exact q0B ..));obtain⟨t1,ht1,n1,hn1,ek⟩:=kQ.mp hkC;obtain⟨t,hti,hfirst⟩:=u9 (z:=tx k.1) (KR (show(fz q)[t1]?=some (tx k.1) by rw[CA ht1,ek]));obtain⟨ht,ezt⟩:=E_ hti;have ekt:k.1=aT (turned q t):=eD ezt;have kp5:=h5.sx.kp hT;ext;refine⟨_,cR.of hkb,rfl,_,_,rfl,_,_,rfl,rfl,⟨_,aQ.of (kp5.lst hlr)⟩,?_⟩;refine b5 (xs:=as.map V.ref) (λj σ H6=>Iq trs rs q ns M L0 tb0 tb all lr lt ln d l2 lw cs H i t k v H6 j σ) (.mk tb5 ws lws _ _ h5 hv (λr hr=>nomatch hr)) (λj σ H6 _ h=>by cases h with | mk _ _ _ _ _ h=>exact aQ.of ((h.sx.kp hT).lst hlr)) ?_ ?_
     ·rintro j x σ H6 hx ⟨tb6,ws6,lws6,y8,y9,⟨sx6,hl6,hcA6,hT6,hw6,hwA6,hI6,hm6⟩,hv6,hs6⟩
      rw[KQ]at hx;obtain⟨ra,hra,rfl⟩:=Lf.mp hx;have hj:=(KM.mp hra).1;obtain⟨r,hr⟩:∃r,trs[j]?=some r:=⟨_,KL (by rw[<- hrs.1];exact hj)⟩;obtain⟨r3,rk3⟩:=hR r (KR hr);have kp6:=sx6.kp hT;obtain⟨rdx,rl,hrb,_⟩:=(hrs.kp kp6).2 j ra r hra hr;rw[rk3]at hrb;have hrb':H6 ra=some (.ins R.ct rdx (Ex r.2.n r.2.c rl r.2.o1 r.2.t)):=hrb;have hu8:r.2.t.toNat<8:=by have:=r3.t0;have:=r3.t7;omega
      have hat:=gZ ht hu8;refine am λN1 h1=>?_;have hlt6:H6 lt=some (.lst ((fz q).map V.str)):=kp6.lst hlt;ext;refine⟨.inl ⟨rfl,_,aQ.of hlt6⟩,fz q,hlt6,t,hti,hfirst,_,_,_,hrb',rk.i3.cl,rk.a3.2.2.2.2,_,rfl,t,r.2.t.toNat,by rw[LH r3.t0],ht,hu8,(fz q).map V.str,_,rfl,aQ.of hlt6,_,bo (by rw[KQ,CA hat];rfl),_,_,_,hrb',rk.i3.cl,rk.a3.1,_,rfl,au b⁻¹,λtp htp=>h1 _ _ ?_⟩;clear h1;have s7:=aj (o:=.tup [V.str (tx (aT (turned q (after t r.2.t.toNat)))),V.str (tx r.2.n)]) htp;have hk7:br (aD H6 tp (.tup [V.str (tx (aT (turned q (after t r.2.t.toNat)))),V.str (tx r.2.n)])) tp (gU q r t):=af;change vT _ _ _ _ _ (aD H6 tp (.tup [V.str (tx (aT (turned q (after t r.2.t.toNat)))),V.str (tx r.2.n)]));generalize aD H6 tp (.tup [V.str (tx (aT (turned q (after t r.2.t.toNat)))),V.str (tx r.2.n)])=H7 at s7 hk7 ⊢;have hT7:=hT6.up s7;have hrb7:=s7 _ _ hrb';ext;have htk:trs.take (j+1)=trs.take j++[r]:=by rw[q0E,hr];rfl
      have hwA7:=hwA6.mono λb y _ _ (h:br H6 b y)=>h.up s7;have hcA7:=hcA6.mono λb y _ _ (h:br H6 b y)=>h.up s7;refine⟨_,_,_,hrb7,rk.i3.cl,rk.a3.2.2.2.1,_,rfl,rfl,?_⟩
      by_cases e:r.2.o1=k.2
      ·rw[q07 (by rw[e])]
       refine⟨au b⁻¹,λtq htq=>?_⟩;generalize z0:aD H7 tq _=H8;obtain⟨s8,(hk8:br H8 tq k)⟩:=gP htq z0;have hT8:cB H8 d tb6:=hT7.up s8;have hg8:=hT8.told.get hk8;rw[hv6]at hg8;have h64:=hI6.len64 h8;have ek2:(aT (turned q t),r.2.o1)=k:=by rw[<- ekt,e]
       obtain⟨hI9,hm9⟩:=hI6.low hq a0 c0 hO h8 r3 ht (v:=v) (by rw[ek2];exact hkC) (by rw[ek2];exact hv6);refine⟨_,hg8,_,_,_,s8 _ _ hrb7,rk.i3.cl,rk.a3.2.1,_,rfl,v,rfl,r.2.c,rfl,d,tp,tb6,gU q r t,v+r.2.c,rfl,hT8,hk7.up s8,by have:=q0W;omega,λH9 hT9 sx9=>⟨_,rfl,?_⟩⟩;have kp9:=sx9.kp hT8;have hv9:aF (dZ tb6 (gU q r t) (v+r.2.c)) k=some v:=by
        rw[jI]
        split
        ·rename_i hc
         obtain⟨hc1,hc2⟩:=hc;unfold ip at hc2;rw[<- hc1,hv6]at hc2;have h3:v+r.2.c<v:=by simpa using hc2
         have:=r3.c1;omega
        ·exact hv6
       have hs9:∀r'∈trs.take (j+1),r'.2.o1=k.2->∃v',v'<=v+r'.2.c/\aF (dZ tb6 (gU q r t) (v+r.2.c)) (gU q r' t)=some v':=by
        intro r' hr' e';rw[htk]at hr';rcases K3.mp hr' with hr' | hr'
        ·obtain⟨v1,l1,e1⟩:=hs6 r' hr' e'
         obtain⟨v2,l2,e2⟩:=xS tb6 (gU q r t) (v+r.2.c) _ _ e1;exact⟨v2,Int.le_trans l2 l1,e2⟩
        ·rw[KP.mp hr']
         exact yI _ _ _
       have sx9':=(sx6.then (s7.trans s8)).trans sx9;have hl9:=kp9.lst (s8 _ _ (s7 _ _ hl6));have hw9:=kp9.lst (s8 _ _ (s7 _ _ hw6));have hcA9:=hcA7.mono λb y _ _ (h:br H7 b y)=>(h.up s8).kp kp9;have hwA9:=hwA7.mono λb y _ _ (h:br H7 b y)=>(h.up s8).kp kp9;have hk9:=(hk7.up s8).kp kp9;cases hlb:ip tb6 (gU q r t) (v+r.2.c) with
       |false=>
        rw[hlb]at hI9 hm9;rw[q06 (by simp)];refine .mk _ ws6 lws6 _ _ ⟨sx9',hl9,hcA9,hT9,hw9,hwA9,hI9.op (λx hx=>.inl hx) (λx w ho no _=>?_),by simp at hm9;omega⟩ hv9 hs9;exact q0Q (ho.elim id λz=>nomatch z.1) no
       |true=>
        rw[hlb]at hI9 hm9;rw[q07 rfl];have hwl:=hwA6.1;simp only[q07]at hm9;refine⟨.inl ⟨rfl,_,aQ.of hw9⟩,_,hw9,by rw[KO];exact zk ⋯,.mk _ (ws6++[tp]) (lws6++[gU q r t]) _ _ ⟨λb o hb h=>?_,?_,?_,?_,?_,(hwA9.mono λb y _ _ h=>h.put hw9).snoc (hk9.put hw9),hI9.op (λx hx=>?_) (λx w ho no _=>?_),?_⟩ hv9 hs9⟩
        ·rw[ar (show b≠lw from λz=>hb (z.trans (hlw0 o (z▸h))))];exact sx9' b o hb h
        ·rw[ar hl2w];exact hl9
        ·exact hcA9.mono λb y _ _ h=>h.put hw9
        ·show aD H9 lw _ d=_
         rw[ar (Ne.symm hlwd)];exact hT9
        ·rw[af,K2];rfl
        ·rcases hx with hx | hx
         ·exact .inl (.inl hx)
         ·rcases K3.mp hx with hx | hx
          ·exact .inl (.inr hx)
          ·exact .inr ⟨rfl,KP.mp hx⟩
        ·refine q0Q ?_ no
         rcases ho with(ho | ho) | ho
         ·exact .inl ho
         ·exact .inr (q0D _ ho)
         ·exact .inr (q0C _ (KP.mpr ho.2))
        ·rw[La,q0Z];omega
      ·rw[q06 (λh=>e (eD (by injection h)))]
       refine .mk tb6 ws6 lws6 _ _ ⟨sx6.then s7,s7 _ _ hl6,hcA7,hT7,s7 _ _ hw6,hwA7,hI6,hm6⟩ hv6 λr' hr' e'=>?_;rw[htk]at hr';rcases K3.mp hr' with hr' | hr'
       ·exact hs6 r' hr' e'
       ·rw[KP.mp hr']at e'
        exact q0Q e' e
     ·rintro σ H6 ⟨tb6,ws6,lws6,y8,y9,h6,hv6,hs6⟩
      rw[KO,hrs.1,Lp]at hs6;refine .mk tb6 ws6 lws6 _ _ _ _ ⟨h6.sx,h6.l,h6.cA,h6.T,h6.w,h6.wA,h6.I.op (λx hx=>hx.elim (λh=>.inl (by rw[hdr];exact K6 _ h)) .inr) (λx w ho no e=>?_),h6.m⟩;have ex:x=k:=by
       rcases ho with ho | ho
       ·rw[hdr]at ho
        rcases K5.mp ho with ho | ho
        ·exact ho
        ·exact q0Q (.inl ho) no
       ·exact q0Q (.inr ho) no
      subst ex;rw[hv6]at e;cases e;intro r hr e1 t' ht' e2;obtain⟨v',l',e'⟩:=hs6 r hr e1;have u8:r.2.t.toNat<8:=by have:=(hR r hr).1.t0;have:=(hR r hr).1.t7;omega
      refine⟨v',l',?_⟩;have et:turned q t'=turned q t:=(hO t' ht').inj (hO t ht) (by rw[<- e2,<- ekt]);unfold gU at e' ⊢;rw[<- bK hq a0 c0 ht' u8,et,bK hq a0 c0 ht u8];exact e'
    ·rintro σ H5 ⟨tb5,ws,lws,z5,z7,z8,z9,⟨sx5,hl5,hcA5,hT5,hw5,hwA,hI5,hm5⟩⟩
     refine h1 _ _ ?_;ext;rw[KO,hcA5.1,List.drop_length]at hI5;have hI9:=hI5.op (op':=λk=>k∈lws) (λk hk=>.inr hk) (λk v ho no _=>ho.elim (λz=>nomatch z) λz=>q0Q z no);refine⟨_,?_,.mk tb5 lws lw ws _ _ _ _ _ sx5 hT5 hw5 hwA hI9 ⋯ rfl⟩;cases lws with
     |nil=>rw[q07 rfl];simp at hm5;omega
     |cons _ _=>rw[q06 (by simp)];simp at hm5;omega
theorem pK:∀{as:LR} {rs:Yaa},bO R H as rs->∃tas:List Addr,((as.zip rs).filterMap λx=>if x.2.1=3 then some (V.ref x.1) else none)=tas.map V.ref/\bO R H tas (pj rs)
 | [],[],h=>⟨[],rfl,h⟩
 | [],_::_,h=>nomatch h.1
 |_::_,[],h=>nomatch h.1
 |a::as,r::rs,h=>by
  have h2:bO R H as rs:=⟨Nat.succ.inj h.1,λi b y e1 e2=>h.2 (i+1) b y e1 e2⟩;obtain⟨tas,e,ht⟩:=pK h2;rw[List.zip_cons_cons,q0U]
  by_cases h3:r.1=3
  ·refine⟨a::tas,by simp only[q07 h3];rw[e];rfl,?_⟩
   have et:pj (r::rs)=r::pj rs:=by unfold pj;rw[List.filter_cons,q07 (by simpa using h3)]
   rw[et];refine⟨by rw[K1,K1,ht.1],λi b y e1 e2=>?_⟩;cases i with
   |zero=>
    rw[List.getElem?_cons_zero]at e1 e2;cases e1;cases e2
    exact h.2 0 _ _ rfl rfl
   |succ i=>exact ht.2 i b y e1 e2
  ·refine⟨tas,by simp only[q06 h3];exact e,?_⟩
   have et:pj (r::rs)=pj rs:=by unfold pj;rw[List.filter_cons,q06 (by simpa using h3)]
   rw[et];exact ht
theorem rB:∀{as:LR} {rs:Yaa} (k:Nat),as.length=rs.length->(((as.zip rs).zipIdx k).filterMap λx=>if x.1.2.1=3 then none else some (V.int (x.2:Int)))=wj ((rs.zipIdx k).filterMap λx=>if x.1.1=3 then none else some x.2)
 | [],[],_,_=>rfl
 | [],_::_,_,h=>nomatch h
 |_::_,[],_,h=>nomatch h
 |a::as,r::rs,k,h=>by
  have ih:=rB (as:=as) (rs:=rs) (k+1) (Nat.succ.inj h);rw[List.zip_cons_cons,List.zipIdx_cons,List.zipIdx_cons,q0U,q0U]
  by_cases h3:r.1=3
  ·simp only[q07 h3];exact ih
  ·simp only[q06 h3];rw[ih];rfl
abbrev eF:Stmt:=fY 55
inductive gj(R:RC)(CG:Addr)(vs:List V)(H:Hp)(Q:VK)(_E:XK):Prop
 |mk (g dx a d:Addr) (sg st:LO) (as:LR) (rs:Yaa) (nms:List (List Nat)) (p q:aL) (r c:Nat) (dn:LW) (tb:Tb) (_:vs=[.ref g,.ref a,.ref d]) (_:cT R H CG dx g sg st as rs) (_:(bJ (tx st) rs).map (·.1)=nms.map tx) (_:fq rs nms p r c) (_:uq rs p r c dn q) (_:ES rs nms p r c dn tb) (_:H a=some (.lst (ao q))) (_:cB H d tb) (_:tb.length<=9900000) (_:∀l H' tb',H' l=some (.lst ((fz q).map V.str))->cB H' d tb'->(∀dn',(∀z,z∈dn'↔z∈dn\/∃t,t<8/\z=tx (aT (turned q t)))->ES rs nms p r c dn' tb')->tb'.length<=tb.length+1216->bv d H H'->Q (.ref l) H')
theorem lR:aG ["grammar","picture","told","turning","putting","texts","t","cuts"] ["grammar","picture","told"] (aq eF):=by walk_at "c"
theorem ld{f:Addr}(F:dG K "enter_turnings" "enter_turnings" eF f fd)(nb:NB mg)(rk:ki K R)(rk4:Cn K R)(cc:jn K CC)(nc:Dg K CC){tkT:Tok}(yal:mg "TURNINGS"=some (.int 8 tkT))(zza:mg "TurnRule"=some (.ref R.ct))(yaw:↑hZ 1 CG "rules" ["self"] (gL R CG))(ya6:↑hZ 1 CG "names" ["self"] (gI R CG))(yai:↑li 3 "Cuts" CC ["self","picture"] (fC K))(zka:↑dF 3 "turned" ["picture","t"] (jK K))(yaC:↑dF 7 "put_together" ["grammar","numbers","cuts","told"] (iS R CG CC))(yaR:↑dF 2 "turn_about" ["rules","texts","names","told"] (j4 R)):↑bj 8 f fd ["grammar","picture","told"] (gj R CG):=by
 have sc:=lR;walk_at "f"
 ·obtain⟨g,dx,a,d,sg,st,as,l,f7,p,q,r,c,dn,tb,rfl,hG,g2,m,hN,hS,ha,hT,htl,qq⟩:=h
  have hu:=hr.units;refine⟨_,(ae (iN (i:=3) ["rule"] [] sc.nd rfl (Or.inl rfl) rfl  rfl (bY.of f⁻¹) f⁻¹ (bR (ph yaw (hr.mono b⁻¹) aK (al 0)))
    (λ_ _ _ _=>(ay (i:=0) (by show(["rule"]:List Str).Nodup;decide +kernel) rfl (Or.inl rfl))) (λ_ _ _ _=>(n_ (g8 (aE (hV (K:=K) rfl) rfl nb.isinstance c4 (ac (al 0) (ac (cW (v:=.ref _) rfl zza rfl) ad))) λ_=>rfl))) (λ_ _ _ _=>(al 0)))
   (ae (iN (i:=4) ["k","rule"] [] sc.nd rfl (Or.inl rfl) rfl  rfl (bY.of f⁻¹) f⁻¹ (tE rfl nb.enumerate (ac (ph yaw (hr.mono b⁻¹) aK (al 0)) ad))
    (λ_ _ _ _=>(lF (K:=K) (n:=2) rfl rfl (aV (ay (i:=0) (by show(["k","rule"]:List Str).Nodup;decide +kernel) rfl (Or.inl rfl)) (aV (ay (i:=1) (by show(["k","rule"]:List Str).Nodup;decide +kernel) rfl (Or.inl rfl)) du)))) (λ_ _ _ _=>(n_ (iF (g8 (aE (hV (K:=K) rfl) rfl nb.isinstance c4 (ac (al 1) (ac (cW (v:=.ref _) rfl zza rfl) ad))) λ_=>rfl)))) (λ_ _ _ _=>(al 0)))
   (ae (q01 5 sc.nd (bI ad))
   (ae (bF PassesOwn.never rfl (cD rfl nb.range (ac (cW (v:=.int 8) rfl yal ⟨_,rfl⟩) ad)) (q02 6 sc.nd)
   (ae (q01 7 sc.nd (ir yai (hr.mono b⁻¹) rfl aK (ac (q00 zka hr (ac (al 1) (ac (al 6) ad))) ad)))
   (ae (bi (q00 yaC hr (ac (al 0) (ac (al 4) (ac (al 7) (ac (al 2) ad))))))
   (ag (bi (q03 (al 5) (ac (cq (al 7) rfl) ad)))))))
   (ae (bi (q00 yaR hr (ac (al 3) (ac (al 5) (ac (ph ya6 (hr.mono b⁻¹) aK (al 0)) (ac (al 2) ad))))))
   (ag (aM (al 5)))))))),?_⟩
  obtain⟨lk,pn,nt,d6,hgk,z,hgN,hgm⟩:=id hG;have d4:∀x∈l,x.1<4:=λx G=>(m.gd x G).k4;have g1:=m.r24;have c9:=z.1;have c1:(as.zip l).length<=1000000:=by rw[q0N];omega
  symm;refine⟨_,_,d6,rfl,g,dx,sg,st,as,l,rfl,hG,λl1 H1 g5 e1 s1=>?_⟩;refine⟨l1,rfl,⟨_,aQ.of e1⟩,?_⟩;refine oI (as:=as.zip l) (emb:=λx=>V.ref x.1) (f:=λx=>if x.2.1=3 then some (V.ref x.1) else none) (λσ=>∃x,σ=[x]) ⟨_,rfl⟩ (λH2 O=>by rw[z.zip.1];exact aQ.of (O _ _ e1)) c1 ?_ ?_
  ·rintro j x G σ H2 M1 M0 ⟨x0,rfl⟩ O k1 k0
   have D:=KR G;obtain⟨f6,rl,a4,_⟩:=(((z.zip.2.2 x D).up s1).up O);have a3:x.2.1<4:=d4 x.2 (by rw[<- z.zip.2.1];exact Lx.mpr ⟨x,D,rfl⟩);ext;refine⟨_,(rk.icls x.2.1).ty a4,_,rk4.kit x.2.1 3 a3 b⁻¹,?_⟩
   by_cases M:x.2.1=3
   ·rw[q07 (by simpa using M)]
    exact k1 _ _ _ (by rw[q07 M]) O ⟨_,rfl⟩
   ·rw[q06 (by simpa using M)]
    exact k0 _ _ (by rw[q06 M]) O ⟨_,rfl⟩
  ·intro H2 O l2 d3
   obtain⟨f5,f1,f9⟩:=pK z;rw[f1];refine h1 _ _ ?_;clear h1;generalize T:aD H2 l2 _=H3;obtain⟨s3,e3⟩:=gP d3 T;have sA:=s1.trans (O.trans s3);symm;have e9:=hG.up sA;refine⟨_,_,sA _ _ d6,rfl,g,dx,sg,st,as,l,rfl,e9,λl4 H4 g4 e4 s4=>?_⟩;refine⟨l4,rfl,_,aQ.of e4,?_⟩;have sB:=sA.trans s4;refine wu (as:=as.zip l) (emb:=λx=>V.ref x.1) (f:=λi x=>if x.2.1=3 then none else some (V.int (i:Int))) (λσ=>∃x y,σ=[x,y]) ⟨_,_,rfl⟩ (λH5 J=>by rw[z.zip.1];exact aQ.of (J _ _ e4)) c1 ?_ ?_
   ·rintro j x G σ H5 tp M1 M0 ⟨x0,x1,rfl⟩ J f8 k1 k0
    have D:=KR G;generalize T:aD H5 tp _=H6;obtain⟨Z,e6⟩:=gP f8 T;obtain⟨f6,rl,a4,_⟩:=((((z.zip.2.2 x D).up sB).up J).up Z);have a3:x.2.1<4:=d4 x.2 (by rw[<- z.zip.2.1];exact Lx.mpr ⟨x,D,rfl⟩);ext;refine⟨_,cR.of e6,rfl,_,_,rfl,_,_,rfl,rfl,_,(rk.icls x.2.1).ty a4,_,rk4.kit x.2.1 3 a3 b⁻¹,?_⟩
    by_cases M:x.2.1=3
    ·rw[q06 (by simpa using M)]
     exact k0 _ _ (by rw[q07 M]) (J.trans Z) ⟨_,_,rfl⟩
    ·rw[q07 (by simpa using M)]
     exact k1 _ _ _ (by rw[q06 M]) (J.trans Z) ⟨_,_,rfl⟩
   ·intro H5 J l5 d2
    rw[show((as.zip l).zipIdx.filterMap λx=>if x.1.2.1=3 then none else some (V.int (x.2:Int)))=wj (fg l) from rB 0 c9];refine h1 _ _ ?_;clear h1;generalize T:aD H5 l5 _=H6;obtain⟨Z,e6⟩:=gP d2 T;have sC:=sB.trans (J.trans Z);have h8:=(s4.trans (J.trans Z)) _ _ e3;have c2:=f9.up sC;have e5:=hG.up sC;have h0:=sC _ _ ha;have B:cB H6 d tb:=hT.up sC;clear Z d2 J s4 e4 g4 sB e9 sA s3 e3 d3 O s1 e1 g5;symm;refine⟨Lc _,λl7 I=>h1 _ _ ?_⟩;clear h1;generalize T:aD H6 l7 _=H7;obtain⟨s7,e7⟩:=gP I T;symm;rw[show Int.toNat 8=8 from rfl];obtain⟨a0,b0,k⟩:=i9 m.hp m.r6 m.c6 hN.sq;have e0:=hS.pta m hN;have hpn:(fg l).length<=24:=by
     unfold fg;refine Lj (List.length_filterMap_le _ _) ?_;rw[List.length_zipIdx];exact g1
    have d1:l7≠d:=λe=>by
     rw[e]at I;rw[show H6 d=_ from B]at I;cases I
    refine⟨by decide,cL (lo:=0) (n:=8) (λt σ H8=>bv d H6 H8/\cB H8 d (pta l (fg l) q tb t)/\H8 l7=some (.lst (((List.range t).map λu=>tx (aT (turned q u))).map V.str))/\∃x6 x7,σ=[some (V.ref g),some (V.ref a),some (V.ref d),some (V.ref l2),some (V.ref l5),some (V.ref l7),x6,x7]) ⟨bv.of s7,B.up s7,e7,_,_,rfl⟩ ?_ ?_⟩
    ·rintro t σ H8 ht ⟨C,L,e8,x6,x7,rfl⟩
     have a2:=C.kp B;have g0:=hN.sq.turned m.hp ht;obtain⟨a1,b1,f0⟩:=i9 m.hp m.r6 m.c6 g0;have:=k.r6;have:=k.c6;symm;refine⟨a,q,a0,b0,t,by simp,aQ.of (a2.lst h0),k.rc,k.r0,k.c0,⋯,⋯,ht,λlq H9 hlq h6 Y=>?_⟩;intro x a5 G g6 g3;have b3:az H9 (aD (aD H9 a5 (.own x)) x (.ins CC a5 [])):=(aj g6).trans (aj (by rw[ar (Ne.symm g3)];exact G));refine⟨x,CC,a5,lq,turned q t,a1,b1,rfl,af,cc.cl,nc,b3 _ _ h6,f0,λH3 hC sx=>⟨rfl,h1 _ _ ?_⟩⟩;clear h1;have s3:az H9 H3:=λy u e=>sx y u (aI e G) (b3 y u e);have U:=Y.trans s3;have d7:cB H3 d (pta l (fg l) q tb t):=L.up U;have a9:=C.then U;have b8:=a9.kp B;have d0:=(e0 t ⋯).len;symm;refine⟨g,dx,l5,x,d,sg,st,as,l,fg l,turned q t,a1,b1,pta l (fg l) q tb t,rfl,e5.kp b8,m.gd,b8.lst e6,λn hn=>(let ⟨r',e',_⟩:=kY.mp hn;(KM.mp e').1),⋯,hC,f0,d7,?_,λH4 h4 a8=>h1 _ _ ?_⟩
     ·have:6*(fg l).length*t<=6*24*8:=Nat.mul_le_mul ⋯ ⋯
      omega
     clear h1;have b6:=a8.kp d7;obtain⟨dxc,lp,lb,la,g9,_⟩:=hC.kp b6;have f3:=b6.lst (U _ _ e8);ext;refine⟨.inl ⟨rfl,_,aQ.of f3⟩,_,_,_,g9,cc.cl,nc.2.1,_,rfl,_,f3,by rw[KO,KO,q0J];exact bc ⋯,λb o hb h=>?_,?_,?_⟩
     ·rw[ar (aI h I)];exact(a9.trans a8) b o hb h
     ·show aD H4 l7 _ d=_
      rw[ar (Ne.symm d1)];exact h4
     ·rw[af,q0M,K2,K2];rfl
    ·rintro σ H8 ⟨C,L,e8,x6,x7,rfl⟩
     refine h1 _ _ ?_;clear h1;ext;have a2:=C.kp B;have e2:=e5.kp a2;obtain⟨lk',pn',nt',d5,_⟩:=id e2;have a6:=e0 8 (Lb _);have d0:=a6.len;have hlen2:6*(fg l).length*8<=6*24*8:=Nat.mul_le_mul ⋯ ⋯;have h2:=ES.start m hN hS a6;have hcell:aH q<=6*6:=by
      unfold aH;rw[k.rc.1,aO k.rc k.r0];exact Nat.mul_le_mul k.r6 k.c6
     refine⟨_,_,d5,rfl,g,dx,sg,st,as,l,rfl,e2,λln H9 hln h7 Y=>?_⟩;have a7:=C.then Y;have b4:=a7.kp B;refine⟨l2,l7,ln,d,f5,pj l,l,q,a0,b0,f7,1170*aH q-1161,(pta l (fg l) q tb 8).length,pta l (fg l) q tb 8,rfl,b4.lst h8,c2.kp b4,Y _ _ e8,?_,L.up Y,k.rc,k.r0,k.c0,λt ht=>b7 m.hp m.ns (hN.sq.turned m.hp ht),m.n8,λx G=>⟨m.turn3 G,by simpa using(List.mem_filter.mp G).2⟩,h2,⋯,⋯,λH' f4 h5 S b2=>?_⟩
     ·rw[h7]
      congr 2
      have:=q0R (List.map V.str) g2;rw[K4,K4]at this;exact this
     ·have h64:=S.len64 m.n8
      refine qq l7 H' f4 ((b2.kp (L.up Y)).lst (Y _ _ e8)) h5 (λdn' hd=>ES.enter m hN hS a6 S hd) ⋯ ((bv.of sC).trans (a7.trans b2))
structure fZ(rs:Yaa)(nms:List (List Nat))(p:aL)(r c:Nat)(tb:Tb):Prop where
 nd:(tb.map (·.1)).Nodup
 key:∀k v,aF tb k=some v->(∃q,a_ p r c q/\k.1=aT q)/\k.2∈nms/\Dv rs k v/\1<=v
 clo:∀q,a_ p r c q->Hy rs (aF tb) q
 len:tb.length<=9900000
theorem fZ.min(E:fq rs nms p r c)(h:fZ rs nms p r c tb){q:aL}(hq:a_ p r c q){n:LO}{v:Int}(hv:Dv rs (aT q,n) v):∃v',v'<=v/\aF tb (aT q,n)=some v':=
 Ax E.hp E.ns (λx hx=>⟨(E.gd x hx).good.t0,(E.gd x hx).good.t7⟩) h.clo hv q hq rfl
def F2(d e:Addr)(H H':Hp):Prop:=∀b o,b≠d->b≠e->H b=some o->H' b=some o
theorem cT.f2{d:Addr}{st:LO}(g:cT R H C dx a sg st as rs)(hd:H d=some (.dT m))(he:H e=some (.dK []))(s:F2 d e H H'):cT R H' C dx a sg st as rs:=by
 obtain⟨u,n,t,h1,h2,q,c,k⟩:=g;have j:∀{b:Addr} {xs:List V},H b=some (.lst xs)->H' b=some (.lst xs):=fun{b xs} h=>s b _ (λz=>by rw[z,hd]at h;cases h) (λz=>by rw[z,he]at h;cases h) h;have o:∀{b C dx:Addr} {fs:List (Str×V)},H b=some (.ins C dx fs)->H' b=some (.ins C dx fs):=fun{b C dx fs} h=>s b _ (λz=>by rw[z,hd]at h;cases h) (λz=>by rw[z,he]at h;cases h) h;refine⟨u,n,t,o h1,j h2,⟨q.1,λi b r G D=>?_⟩,⟨s n _ (λz=>?_) (λz=>?_) c.dict,λx y=>j (c.list x y),c.apart⟩,k⟩
 ·obtain⟨dx,l,w,v⟩:=q.2 i b r G D
  exact⟨dx,l,o w,j v⟩
 ·have h:=c.dict
  rw[z,hd]at h;cases h
 ·have h:=c.dict
  rw[z,he]at h
  injection h with h
  injection h with h
  have B:t=[]:=by
   cases t with
   |nil=>rfl
   |cons x t=>exact nomatch h
  rw[B]at k;have p:=(jg (tx st) rs (tx st)).mpr (.inl rfl);rw[<- k]at p;exact nomatch p
def vd(dn:LW)(zs:LW):List Str:=zs.foldl ThM.addNew dn
theorem lO{z:Str}:∀{zs dn:LW},z∈vd dn zs↔z∈dn\/z∈zs
 | [],dn=>by simp[vd]
 |y::zs,dn=>by
  show z∈vd (ThM.addNew dn y) zs↔_;rw[lO,ThM.mem_addNew,K5,or_assoc]
theorem o_:∀(zs dn:LW),(vd dn zs).length<=dn.length+zs.length
 | [],dn=>Lb _
 |y::zs,dn=>by
  have h1:=o_ zs (ThM.addNew dn y);have h2:(ThM.addNew dn y).length<=dn.length+1:=by unfold ThM.addNew;split<;>simp
  show(vd (ThM.addNew dn y) zs).length<=_;rw[K1];omega
theorem uU{z:Str}:z∈fz q↔∃t,t<8/\z=tx (aT (turned q t)):=by
 unfold fz;rw[Lx]
 constructor
 ·rintro⟨t,a,rfl⟩;exact⟨t,List.mem_range.mp a,rfl⟩
 ·rintro⟨t,a,rfl⟩;exact⟨t,List.mem_range.mpr a,rfl⟩
theorem ES.new{dn:LW}{qs:List aL}{i:Nat}{q:aL}(E:fq rs nms p r c)(S:ES rs nms p r c dn tb)(hsn:Gc p r c qs)(hi:qs[i]?=some q)(hdn:∀j z,j<i->qs[j]?=some z->tx (aT z)∈dn)(hno:tx (aT q)∉dn):uq rs p r c dn q:=by
 have a:=(hsn.1 q).mp (KR hi);obtain⟨a0,b0,k,g,e,_⟩:=a.rect E.hp;refine⟨a,λt b w=>hno ?_,λo l hc=>?_⟩
 ·have:=S.tur _ (a.turned E.hp b) w (di t) (eu b)
  rwa [jh k g e b]at this
 ·obtain⟨j,u⟩:=List.mem_iff_getElem?.mp ((hsn.1 o).mpr l)
  refine hdn j o ?_ u;obtain⟨Gq,v⟩:=KM.mp hi;obtain⟨m,n⟩:=KM.mp u;rcases Nat.lt_trichotomy j i with h | h | h
  ·exact h
  ·subst h
   rw[v]at n;subst n;omega
  ·have:=List.pairwise_iff_getElem.mp hsn.2 i j Gq m h
   rw[v,n]at this;rcases this with h | ⟨h,_⟩<;>omega
abbrev iw:Stmt:=fY 54
inductive j6(K:W.Frag)(R:RC)(CG:Addr)(vs:List V)(H:Hp)(Q:VK)(_E:XK):Prop
 |mk (g dx a d e:Addr) (sg st:LO) (as:LR) (rs:Yaa) (nms:List (List Nat)) (p:aL) (r c:Nat) (_:vs=[.ref g,.ref a,.ref d,.ref e]) (_:cT R H CG dx g sg st as rs) (_:(bJ (tx st) rs).map (·.1)=nms.map tx) (_:fq rs nms p r c) (_:aQ K H a (ao p)) (_:cB H d []) (_:H e=some (.dK [])) (_:∀H' tb,cB H' d tb->fZ rs nms p r c tb->F2 d e H H'->Q .non H')
theorem qp:aG ["grammar","picture","told","done","seen","text"] ["grammar","picture","told","done"] (aq iw):=by walk_at "c"
theorem qv{f:Addr}(F:dG K "enter_seen" "enter_seen" iw f fd)(nb:NB mg)(yaF:↑dF 4 "seen_in" ["picture"] (oJ K))(yab:↑dF 1 "shown" ["picture"] (dQ K))(yaY:↑dF 8 "enter_turnings" ["grammar","picture","told"] (gj R CG)):↑bj 9 f fd ["grammar","picture","told","done"] (j6 K R CG):=by
 have sc:=qp;walk_at "f"
 ·obtain⟨g,dx,a,d,e,sg,st,as,rs,a2,p,r,c,rfl,hG,b3,u,b8,hT,he,qq⟩:=h
  have hu:=hr.units;refine⟨_,(ag (bF PassesOwn.never rfl (bR (q00 yaF hr (ac (al 1) ad))) (q02 4 sc.nd)
   (ag (bL (mD (jG (Lv (LA (by decide:1<=64) _) hu) (q00 yab hr (ac (al 4) ad)) (al 3)) (by with_unfolding_all rfl))
   (ag (bF PassesOwn.never rfl (bR (q00 yaY hr (ac (al 0) (ac (al 4) (ac (al 2) ad))))) (q02 5 sc.nd)
   (ag (tQ (Lv (LA (by decide:1<=64) _) hu) (al 3) (al 5) nj rfl))))
   aW)))),?_⟩
  ext;refine⟨a,p,r,c,rfl,b8,u.hp,u.r0,u.c0,u.r6,u.c6,u.ns,λH1 l zs s1 hl el hz hnd T hzl=>⟨l,rfl,⟨_,aQ.of el⟩,?_⟩⟩;have Y:cB H1 d []:=hT.up s1;have U:=s1 _ _ he;have c9:=hG.up s1;have a8:d≠e:=λz=>by rw[z]at hT;rw[show H e=_ from hT]at he;cases he
  have a9:∀{H':Hp} {b:Addr} {xs:List V},F2 d e H1 H'->H1 b=some (.lst xs)->H' b=some (.lst xs):=fun{H' b xs} s h=>s b _ (λz=>by rw[z,show H1 d=_ from Y]at h;cases h) (λz=>by rw[z,U]at h;cases h) h;refine b5 (xs:=zs.map λz=>V.ref z.1) (λi σ H2=>F2 d e H1 H2/\i<=zs.length/\(∃(tb:Tb) (m:LW),cB H2 d tb/\H2 e=some (.dK (ThM.trueD m))/\ES rs a2 p r c m tb/\(∀j z,j<i->(zs.map (·.2))[j]?=some z->tx (aT z)∈m)/\tb.length<=1216*i/\m.length<=8*i)/\∃x4 O,σ=[some (V.ref g),some (V.ref a),some (V.ref d),some (V.ref e),x4,O]) ?_ (λi σ H2 _ h=>aQ.of (a9 h.1 el)) ?_ ?_
  ·refine⟨λb o _ _ h=>h,Lc _,⟨[],[],Y,U,⟨List.nodup_nil,(λk v h=>nomatch h),(λk v h=>nomatch h),(λz h=>nomatch h),(λq _ h=>nomatch h),(λq _ h=>nomatch h),(λq _ h=>nomatch h)⟩,(λj z h=>q0Q h (Nat.not_lt_zero _)),Lb _,Lb _⟩,_,_,rfl⟩
  ·rintro i x σ H2 hx ⟨f2,_,⟨tb,m,J,I,M,n,a5,b4⟩,x4,O,rfl⟩
   rw[KQ]at hx;obtain⟨z,S,rfl⟩:=Lf.mp hx;have hi:=(KM.mp S).1;have b2:=KR S;have a3:=a9 f2 (hz z b2).2;have D:(zs.map (·.2))[i]?=some z.2:=by rw[KQ,S];rfl
   have sq:=(T.1 z.2).mp (KR D);obtain⟨a0,b0,d0⟩:=i9 u.hp u.r6 u.c6 sq;have a7:tx (aT z.2)∈m->∀j y,j<i+1->(zs.map (·.2))[j]?=some y->tx (aT y)∈m:=λZ j y hj B=>by
    by_cases ej:j=i
    ·subst ej
     rw[D]at B;cases B
     exact Z
    ·exact n j y ⋯ B
   ext;refine⟨z.1,z.2,rfl,a3,d0.small,_,.inl ⟨_,.inr (tx (aT z.2)),.inl I,rfl,rfl⟩,?_⟩;rw[ThM.trueD_val]
   by_cases Z:tx (aT z.2)∈m
   ·rw[q06 (by simpa using Z)]
    exact⟨f2,hi,tb,J,m,I,M,a7 Z,⋯,⋯⟩
   ·rw[q07 (by simpa using Z)]
    have hN:=M.new u T D n Z;refine⟨g,dx,z.1,d,sg,st,as,rs,a2,p,z.2,r,c,m,tb,rfl,c9.f2 Y U f2,b3,u,hN,M,a3,J,⋯,λl3 H3 b1 L b6 c2 hl3 a1=>⟨l3,rfl,⟨_,aQ.of L⟩,?_⟩⟩;have a6:=a1 _ _ (Ne.symm a8) I;have hcl:(fz z.2).length=8:=by unfold fz;rw[KO,q0J]
    refine b5 (xs:=(fz z.2).map V.str) (λj σ H4=>bv e H3 H4/\j<=8/\H4 e=some (.dK (ThM.trueD (vd m ((fz z.2).take j))))/\∃O,σ=[some (V.ref g),some (V.ref a),some (V.ref d),some (V.ref e),some (V.ref z.1),O]) ⟨bv.of λ_ _ h=>h,Lc _,a6,_,rfl⟩ (λj σ H4 _ h=>aQ.of (h.1 _ _ (λzz=>by rw[zz,a6]at L;cases L) L)) ?_ ?_
    ·rintro j x σ H4 hx ⟨C,_,G,O,rfl⟩
     rw[KQ]at hx;obtain⟨y,B,rfl⟩:=Lf.mp hx;have hj:j<8:=by have:=(KM.mp B).1;omega
     have a4:=o_ ((fz z.2).take j) m;rw[Lq]at a4;ext;refine⟨_,.inl ⟨_,.inr y,G,rfl,by rw[ThM.trueD_len];exact bc ⋯,rfl⟩,C.put,hj,?_⟩;rw[af,ThM.trueD_put,q0E,B];show _=some (HO.dK (ThM.trueD (List.foldl ThM.addNew m (_++[y]))));rw[List.foldl_append];rfl
    ·rintro σ H4 ⟨C,_,G,O,rfl⟩
     rw[KO,Lp]at G;have a4:=o_ (fz z.2) m;have c1:=c2 (vd m (fz z.2)) λy=>by rw[lO,uU]
     refine⟨λb o h1 h2 h=>C b o h2 (a1 b o h1 (f2 b o h1 h2 h)),hi,⟨b1,C _ _ a8 b6,vd m (fz z.2),G,c1,λj y hj B=>?_,⋯,⋯⟩,_,_,rfl⟩
     by_cases ej:j=i
     ·subst ej
      rw[D]at B;cases B
      exact lO.mpr (.inr (uU.mpr ⟨0,⋯,rfl⟩))
     ·exact lO.mpr (.inl (n j y ⋯ B))
  ·rintro σ H2 ⟨f2,_,⟨tb,m,J,I,M,n,a5,b4⟩,x4,O,rfl⟩
   have all:∀q,a_ p r c q->tx (aT q)∈m:=λq hq=>by
    obtain⟨j,hj⟩:=List.mem_iff_getElem?.mp ((T.1 q).mpr hq);refine n j q ?_ hj;have:=(KM.mp hj).1
    rwa [KO]at this ⊢
   rw[KO]at a5;refine qq H2 tb J ⟨M.nd,λk v h=>?_,λq hq=>M.clo q hq (all q hq),⋯⟩ λb o h1 h2 h=>f2 b o h1 h2 (s1 b o h);obtain⟨h1,h2⟩:=M.key k v h;obtain⟨q,h3,h4⟩:=M.don _ h1;exact⟨⟨q,h3,eD h4⟩,h2⟩
abbrev kP:Stmt:=fY 53
inductive ge(K:W.Frag)(R:RC)(CG:Addr)(vs:List V)(H:Hp)(Q:VK)(_E:XK):Prop
 |mk (g dx a:Addr) (sg st:LO) (as:LR) (rs:Yaa) (nms:List (List Nat)) (p:aL) (r c:Nat) (_:vs=[.ref g,.ref a]) (_:cT R H CG dx g sg st as rs) (_:(bJ (tx st) rs).map (·.1)=nms.map tx) (_:fq rs nms p r c) (_:aQ K H a (ao p)) (_:∀d H' tb,H d=none->cB H' d tb->fZ rs nms p r c tb->az H H'->Q (.ref d) H')
theorem vy:aG ["grammar","picture","told"] ["grammar","picture"] (aq kP):=by walk_at "c"
theorem vx{f:Addr}(F:dG K "table_of" "table_of" kP f fd)(nb:NB mg)(yaP:↑dF 9 "enter_seen" ["grammar","picture","told","done"] (j6 K R CG)):↑bj 10 f fd ["grammar","picture"] (ge K R CG):=by
 have sc:=vy;walk_at "f"
 ·obtain⟨g,L,a,z,y,M,B,l,p,r,c,rfl,G,m,I,u,C⟩:=h
  refine⟨_,(ae (q01 2 sc.nd Ay)
   (ae (bi (q00 yaP hr (ac (al 0) (ac (al 1) (ac (al 2) (ac uY ad))))))
   (ag (aM (al 2))))),?_⟩
  ext;intro d q e n;have k:=aj (o:=.dT []) q;have x:cB (aD H d (.dT [])) d []:=af;generalize aD H d (.dT [])=H1 at k x n ⊢;have j:=aj (o:=.dK []) n;have v:aD H1 e (.dK []) e=some (.dK []):=af;generalize aD H1 e (.dK [])=H2 at j v ⊢;refine⟨g,L,a,d,e,z,y,M,B,l,p,r,c,rfl,G.up (k.trans j),m,I,(k.trans j).seq u,x.up j,v,λO tb D J f2=>?_⟩;exact C d O tb q D J λb o h=>f2 b o (aI h q) (aI (k b o h) n) (j b o (k b o h))
abbrev ow:Stmt:=fY 67
inductive mK(K:W.Frag)(vs:List V)(H:Hp)(Q:VK)(_E:XK):Prop
 |mk (a:Addr) (ns:List Int) (k:Nat) (_:vs=[.ref a,.int (k:Int)]) (_:aQ K H a (ns.map V.int)) (_:k<=1000) (_:Q (.int (dD ns k)) H)
theorem Ag:aG ["_law_script","_law_k","_law_cell_here","_law_mixed"] ["_law_script","_law_k"] (aq ow):=by walk_at "c"
theorem y3{f:Addr}(F:dG K "_law_cell" "_law_cell" ow f fd)(nb:NB mg):↑bj 1 f fd ["_law_script","_law_k"] (mK K):=by
 have sc:=Ag;walk_at "f"
 ·obtain⟨a,ns,k,rfl,hS,hk,q⟩:=h
  refine⟨_,(ae (q01 2 sc.nd ai)
   (ae (bL (aN ot (pv 1) (aE aZ rfl nb.len ba (ac (pv 0) ad)) (aR _))
   (ag (q01 2 sc.nd (aP yc (pv 0) (pv 1) (λ_ _=>rfl))))
   aW)
   (ae (q01 3 sc.nd (aw bf (aw d8 (aw bU (aw bU (aw bf (pv 2) ai) (aw d8 ai (pv 1))) ai) ai) ai))
   (ag (aM (aw bU (aw d8 (aw bg (pv 2) ai) ai) (aw bf (aw bU (aw d8 (pv 3) ai) (pv 1)) ai))))))),?_⟩
  ext;refine⟨_,hS,?_⟩;rw[KO];unfold dD at q
  split
  ·rename_i hlt
   have hlt':k<ns.length:=by omega
   rw[q0A,KL hlt',q0L]at q;refine⟨_,hS,V.int ns[k],bo (by rw[KQ,KL hlt'];rfl),?_⟩;ext;exact q
  ·rename_i hlt
   rw[q0A,List.getElem?_eq_none ⋯,Option.getD_none]at q;exact q
def wq(d s m:Nat):List Nat:=(List.range (1+m)).map λi=>97+(d+(1+2*s)*i)%26
theorem CY:∀d,d<26->∀s,s<6->∀m,m<4->jy (wq d s m)=true:=by decide +kernel
structure Gp(r:LO):Prop where
 ok:jy r=true
 one:∀c∈r,hU [c]=true
 nd:r.Nodup
 ns:47∉r
def G2:List Nat->Bool
 | []=>true
 |x::r=>!r.contains x&&G2 r
theorem BK:∀{r:LO},G2 r=true->r.Nodup
 | [],_=>List.nodup_nil
 |x::r,h=>by
  unfold G2 at h;rw[q0O]at h;exact List.nodup_cons.mpr ⟨by simpa using h.1,BK h.2⟩
theorem E8:∀d,d<26->∀s,s<6->∀m,m<4->((wq d s m).all (λc=>hU [c])&&G2 (wq d s m) && !(wq d s m).contains 47)=true:=by decide +kernel
theorem BL:∀n,n<26->(Str.ofString "abcdefghijklmnopqrstuvwxyz").cps.toList[n]?=some (97+n):=by decide +kernel
def dq(r:LO):aL:=r.map λc=>[c]
abbrev lW:Stmt:=fY 70
inductive pA(vs:List V)(H:Hp)(Q:VK)(_E:XK):Prop
 |mk (c:Int) (m:Nat) (_:vs=[.int c,.int (1+(m:Int))]) (_:m<4) (_:∀(l:Addr) (r:LO) (H':Hp),H l=none->H' l=some (.lst (ao (dq r)))->Gp r->r.length=1+m->az H H'->Q (.ref l) H')
theorem xp:aG ["_law_cell_here","_law_many","_law_letters","_law_step"] ["_law_cell_here","_law_many"] (aq lW):=by walk_at "c"
theorem w_{f:Addr}(F:dG K "_law_signs" "_law_signs" lW f fd)(nb:NB mg):↑bj 1 f fd ["_law_cell_here","_law_many"] pA:=by
 have sc:=xp;walk_at "f"
 ·obtain⟨c,m,rfl,o,q⟩:=h
  refine⟨_,(ae (aA (i:=2) sc.nd rfl (Or.inr rfl) pU)
   (ae (aA (i:=3) sc.nd rfl (Or.inr rfl) (aw (bC.m0 bU) ai (aw (bC.m1 d8) ai (aw (bC.m1 bf) (aw (bC.m1 bg) (al 0) ai) ai))))
   (ag (aM (cH ["_law_k"] [2,0,3] rfl (bY.of f⁻¹) f⁻¹ (cD rfl nb.range (ac (al 1) ad))
    (λ_ _ _ _=>(ay (i:=0) (by show(["_law_k","_law_letters","_law_cell_here","_law_step"]:List Str).Nodup;decide +kernel) rfl (Or.inl rfl))) (λ_ _ _ _=>cJ) (λ_ _ _ _=>(aP o9 (al 1) (aw (bC.m1 bf) (aw (bC.m0 bU) (aw (bC.m1 bf) (al 2) ai) (aw (bC.m1 d8) (al 3) (al 0))) ai) (λ_ _=>rfl)))))))),?_⟩
  obtain⟨a,g⟩:∃m:Nat,c/26%6=(m:Int):=⟨_,(LH (LF _ ⋯)).symm⟩;obtain⟨d,v⟩:∃m:Nat,c%26=(m:Int):=⟨_,(LH (LF _ ⋯)).symm⟩;have k:a<6:=by omega
  have r:d<26:=by omega
  symm;refine h1 _ _ ?_;grind;rw[g];refine h1 _ _ ?_;clear h1;ext;have z:(1+(m:Int)).toNat=1+m:=by omega
  rw[z];refine⟨⋯,⋯,?_⟩;have j:∀i:Nat,(c%26+(1+2*(a:Int))*(i:Int))%26=(((d+(1+2*a)*i)%26:Nat):Int):=λi=>by
   rw[v];push_cast;rfl
  refine gc (n:=1+m) (f:=λi=>some (V.str ⟨#[97+(d+(1+2*a)*i)%26]⟩)) (λσ=>∃x,σ=[x,some (.str "abcdefghijklmnopqrstuvwxyz"),some (.int c),some (.int (1+2*(a:Int)))]) ⟨_,rfl⟩ ⋯ ?_ ?_
  ·rintro i hi σ C N1 N0 ⟨y,rfl⟩ e u k0
   ext;refine⟨.inl ⟨⋯,⋯⟩,by decide,97+(d+(1+2*a)*i)%26,?_,u _ _ _ rfl e ⟨_,rfl⟩⟩;rw[j i];exact bo (BL _ (Nat.mod_lt _ ⋯))
  ·intro C e l p
   rw[lQ];have B:(List.range (1+m)).map (λi=>V.str ⟨#[97+(d+(1+2*a)*i)%26]⟩)=ao (dq (wq d a m)):=by
    unfold wq ao dq;rw[K4,K4];rfl
   rw[B];have b:=E8 d r a k m o;rw[q0O,q0O]at b;exact q l _ _ (e.free p) af ⟨CY d r a k m o,Lz.mp b.1.1,BK b.1.2,by simpa using b.2⟩ (by unfold wq;rw[KO,q0J]) (e.trans (aj p))
theorem pF(r s:LO):tx r++tx s=tx (r++s):=by
 show(⟨r.toArray++s.toArray⟩:Str)=⟨(r++s).toArray⟩;simp
theorem Bl:∀n,n<26->(Str.ofString "ABCDEFGHIJKLMNOPQRSTUVWXYZ").cps.toList[n]?=some (65+n):=by decide +kernel
def Ed(c:Nat):Bool:=Gj E6 c
theorem Cv:∀n,n<26->Ed (65+n)=true:=by decide +kernel
theorem GA(x:Int):∃n:Nat,n<26/\x%26=(n:Int):=⟨(x%26).toNat,⋯,⋯⟩
theorem sR{r:LO}(h:∀x∈r,Ed x=true)(h1:1<=r.length)(h4:r.length<=4):dN r=true:=by
 have a:r.all (Gj E6)=true:=Lz.mpr h;unfold dN kf;rw[a];simp;omega
abbrev mz:Stmt:=fY 69
inductive p7(vs:List V)(H:Hp)(Q:VK)(_E:XK):Prop
 |mk (c:Int) (m:Nat) (_:vs=[.int c,.int (1+(m:Int))]) (_:m<4) (_:∀(l:Addr) (p:aL) (H':Hp),H l=none->H' l=some (.lst (ao p))->p.length=1+m->(∀r∈p,dN r=true)->az H H'->Q (.ref l) H')
theorem wz:aG ["_law_cell_here","_law_many","_law_letters","_law_start","_law_step","_law_extra","_law_names_here","_law_k","_law_letter"] ["_law_cell_here","_law_many"] (aq mz):=by walk_at "c"
theorem xR{f:Addr}(F:dG K "_law_names" "_law_names" mz f fd)(nb:NB mg):↑bj 1 f fd ["_law_cell_here","_law_many"] p7:=by
 have sc:=wz;walk_at "f"
 ·obtain⟨c,m,rfl,m2,q⟩:=h
  refine⟨_,(ae (aA (i:=2) sc.nd rfl (Or.inr rfl) pU)
   (ae (aA (i:=3) sc.nd rfl (Or.inr rfl) (aw (bC.m1 bf) (aw (bC.m1 bg) (al 0) ai) ai))
   (ae (q01 4 sc.nd (aw (bC.m0 bU) ai (aw (bC.m1 d8) ai (aw (bC.m1 bf) (aw (bC.m1 bg) (al 0) ai) ai))))
   (ae (bL (aN dz (aw (bC.m1 bf) (aw (bC.m1 bg) (al 0) ai) ai) ai (aR _))
   (ag (aM (cH ["_law_k"] [2,3] rfl (bY.of f⁻¹) f⁻¹ (cD rfl nb.range (ac (al 1) ad))
    (λ_ _ _ _=>(ay (i:=0) (by show(["_law_k","_law_letters","_law_start"]:List Str).Nodup;decide +kernel) rfl (Or.inl rfl))) (λ_ _ _ _=>cJ) (λ_ _ _ _=>(aw CW (aP o9 (al 1) (al 2) (λ_ _=>rfl)) (aw (bC.m0 bU) ai (al 0)))))))
   aW)
   (ae (q01 5 sc.nd (aP aX (bI (fU (fU (fU (fU ad))))) (aw (bC.m1 bf) (al 0) ai) (λ_ _=>rfl)))
   (ae (q01 6 sc.nd (bI ad))
   (ae (bF PassesOwn.never rfl (cD rfl nb.range (ac (al 1) ad)) (q02 7 sc.nd)
   (ae (q01 8 sc.nd (aP o9 (al 2) (aw (bC.m1 bf) (aw (bC.m0 bU) (al 3) (aw (bC.m1 d8) (al 4) (al 7))) ai) (λ_ _=>rfl)))
   (ag (bi (q03 (al 6) (ac (aP aX (bI (ac (aw fS (al 8) (al 5)) (ac (aw fS (al 5) (al 8)) ad))) (aw (bC.m1 bf) (aw (bC.m1 bg) (al 0) ai) ai) (λ_ _=>rfl)) ad))))))
   (ag (aM (al 6)))))))))),?_⟩
  obtain⟨d,d2,hd⟩:=GA (c/4);obtain⟨s6,T⟩:∃m:Nat,c/104%6=(m:Int):=⟨_,(LH (LF _ ⋯)).symm⟩;symm;refine h1 _ _ ?_;grind;rw[hd];refine h1 _ _ ?_;grind;rw[T];refine h1 _ _ ?_;grind;refine cw (λhc=>?_) (λhc=>h1 _ _ ?_)
  ·rw[show(1+(m:Int)).toNat=1+m by omega]
   refine⟨⋯,⋯,?_⟩;refine gc (n:=1+m) (f:=λi=>some (V.str (tx (List.replicate (1+i) [65+d]).flatten))) (λσ=>∃x,σ=[x,some (.str "ABCDEFGHIJKLMNOPQRSTUVWXYZ"),some (.int (d:Int))]) ⟨_,rfl⟩ ⋯ ?_ ?_
   ·rintro i L σ j N1 N0 ⟨y,rfl⟩ D k1 k0
    ext;exact⟨by decide,_,bo (Bl d d2),[65+d],rfl,1+i,by push_cast;rfl,⋯,⋯,by simp,k1 _ _ _ rfl D ⟨_,rfl⟩⟩
   ·intro j D l hl
    rw[lQ];have e0:(List.range (1+m)).map (λi=>V.str (tx (List.replicate (1+i) [65+d]).flatten))=ao ((List.range (1+m)).map λi=>(List.replicate (1+i) [65+d]).flatten):=by
     unfold ao;rw[K4];rfl
    rw[e0];refine q l _ _ (D.free hl) af (by rw[KO,q0J]) (λr hr=>?_) (D.trans (aj hl));obtain⟨i,L,rfl⟩:=Lx.mp hr;have L:=List.mem_range.mp L;refine sR (λx a=>?_) (by rw[sS];simp) (by rw[sS];simp;omega);obtain⟨y,hy,a⟩:=List.mem_flatten.mp a;rw[List.eq_of_mem_replicate hy]at a;rw[KP.mp a];exact Cv d d2
  ·symm
   refine⟨au b⁻¹,λp1 U=>?_⟩;generalize M:aD H p1 _=H1;obtain⟨s1,e1⟩:=gP U M;obtain⟨b,a1,v,S⟩:∃b:List Nat,i6 [V.str (Str.ofString ""),V.str (Str.ofString "Q"),V.str (Str.ofString "ZA"),V.str (Str.ofString "MMX")] (c%4)=some (.str (tx b))/\(∀x∈b,Ed x=true)/\b.length<=3:=by
    rcases(by omega:c%4=0\/c%4=1\/c%4=2\/c%4=3) with h | h | h | h<;>rw[h]
    ·exact⟨[],rfl,(λx a=>nomatch a),by decide⟩
    ·exact⟨[81],rfl,by decide +kernel,by decide⟩
    ·exact⟨[90,65],rfl,by decide +kernel,by decide⟩
    ·exact⟨[77,77,88],rfl,by decide +kernel,by decide⟩
   refine⟨_,aQ.of e1,_,a1,h1 _ _ ?_⟩;grind;refine⟨Lc _,λu C=>h1 _ _ ?_⟩;clear h1;have s2:=aj (o:=.lst []) C;have e2:aD H1 u (.lst []) u=some (.lst []):=af;have sA:=s1.trans s2;have e:=s1.free C;generalize aD H1 u (.lst [])=H2 at s2 e2 sA ⊢;symm;rw[show(1+(m:Int)).toNat=1+m by omega];refine⟨⋯,⋯,?_⟩;refine cL (lo:=0) (n:=1+m) (λi σ j=>az H j/\(∃p:aL,j u=some (.lst (ao p))/\p.length=i/\∀r∈p,dN r=true)/\∃x y,σ=[some (V.int c),some (V.int (1+(m:Int))),some (V.str (Str.ofString "ABCDEFGHIJKLMNOPQRSTUVWXYZ")),some (V.int (d:Int)),some (V.int (1+2*(s6:Int))),some (V.str (tx b)),some (V.ref u),x,y]) ⟨sA,⟨[],e2,rfl,λr hr=>nomatch hr⟩,_,_,rfl⟩ ?_ ?_
   ·rintro i σ j L ⟨k,⟨p,J,G,O⟩,x,y,rfl⟩
    symm;obtain⟨n,B,Z⟩:=GA ((d:Int)+(1+2*(s6:Int))*(i:Int));refine⟨.inr ⟨⋯,⋯⟩,by decide,65+n,by rw[Z];exact bo (Bl n B),h1 _ _ ?_⟩;clear h1;change ye _ _ _ _;generalize hz:(⟨#[65+n]⟩:Str)=z;ext;have R:z=tx [65+n]:=hz.symm;subst R;have hl1:(tx [65+n]).length=1:=rfl;have hl2:(tx b).length<=3:=by rw[ax];exact S
    refine⟨.inl ⟨rfl,_,aQ.of J⟩,au ⋯,au ⋯,au b⁻¹,λl3 a0=>?_⟩;generalize M:aD j l3 _=H3;obtain⟨s3,e3⟩:=gP a0 M;obtain⟨I,Y,hn⟩:∃I:List Nat,i6 [V.str (tx [65+n]++tx b),V.str (tx b++tx [65+n])] (c/624%2)=some (.str (tx I))/\dN I=true:=by
     have g:∀x∈[65+n],Ed x=true:=λx a=>by rw[KP.mp a];exact Cv n B
     rcases(by omega:c/624%2=0\/c/624%2=1) with h | h<;>rw[h]
     ·exact⟨[65+n]++b,by rw[<- pF];rfl,sR (λx a=>(K3.mp a).elim (g x) (v x)) (by simp) (by simp;omega)⟩
     ·exact⟨b++[65+n],by rw[<- pF];rfl,sR (λx a=>(K3.mp a).elim (v x) (g x)) (by simp) (by simp;omega)⟩
    refine⟨_,aQ.of e3,_,Y,_,s3 _ _ J,by rw[ak,G];exact bc ⋯,bE (k.trans s3) e,p++[I],by rw[af,cU],by rw[La,G];rfl,λr hr=>?_⟩;rcases K3.mp hr with h | h
    ·exact O r h
    ·rw[KP.mp h];exact hn
   ·rintro σ j ⟨k,⟨p,J,G,O⟩,x,y,rfl⟩
    refine h1 _ _ ?_;ext;exact q u p j e J G O k
theorem wW(r:LO):(dq r).flatten=r:=by
 induction r with
 |nil=>rfl
 |cons c r ih=>show c::(dq r).flatten=_;rw[ih]
theorem bO.snoc20{r:Nat×RV}(h:bO R H as rs)(hb:fV R H r.1 b r.2):bO R H (as++[b]) (rs++[r]):=by
 refine⟨by rw[La,La,h.1];rfl,λi a x c e=>?_⟩
 by_cases g:i<as.length
 ·rw[K' g]at c
  rw[K' (by rw[<- h.1];exact g)]at e;exact h.2 i a x c e
 ·have j:=(KM.mp c).1
  rw[La,q0Z]at j;have hh:=h.1;rw[K_ ⋯,show i-as.length=0 by omega]at c;rw[K_ ⋯,show i-rs.length=0 by omega]at e;cases c;cases e
  exact hb
theorem bO.put20{lr:Addr}{bs:LR}(h:bO R H as rs)(hl:H lr=some (.lst (bs.map V.ref)))(hx:as=[]\/∃b,b∈bs):bO R (aD H lr o) as rs:=by
 refine⟨h.1,λi a r c j=>?_⟩;obtain⟨k,l,h1,h2⟩:=h.2 i a r c j;refine⟨k,l,by rw[ar (λz=>by rw[z,hl]at h1;cases h1)];exact h1,?_⟩;rw[ar (λz=>?_)]
 ·exact h2
 ·rw[z,hl]at h2
  injection h2 with h2
  injection h2 with h2
  rcases hx with hx | ⟨b,g⟩
  ·rw[hx]at c;simp at c
  ·have:V.ref b∈ao (bT r.1 r.2):=by rw[<- h2];exact Lx.mpr ⟨b,g,rfl⟩
   unfold ao at this;obtain⟨y,_,e⟩:=Lx.mp this;cases e
abbrev ji:Stmt:=fY 75
inductive lG(R:RC)(CG:Addr)(vs:List V)(H:Hp)(Q:VK)(_E:XK):Prop
 |mk (l la:Addr) (r st:LO) (ts:LR) (rs:Yaa) (_:vs=[.ref la,.str (tx st),.ref l]) (_:H la=some (.lst (ao (dq r)))) (_:c7 H l ts rs) (_:(∀r∈rs,rO r)) (_:rs.length<=24) (_:r.length<=4) (_:st.length<=100) (_:oy r st rs=none) (_:∀b db as H',cT R H' CG db b r st as rs->az H H'->Q (.ref b) H')
theorem sJ:aG ["_law_signs_here","_law_start","_law_rules","_law_made","_law_kind","_law_name","_law_cost","_law_one","_law_other"] ["_law_signs_here","_law_start","_law_rules"] (aq ji):=by walk_at "c"
theorem tP{f:Addr}(F:dG K "_law_grammar" "_law_grammar" ji f fd)(nb:NB mg)(rk:ki K R)(gk:HX K CG)
  (zkb:↑li 4 "CellRule" R.cc ["self","name","cost","sign"] (ii K)) (zSa:↑li 4 "BesideRule" R.cb ["self","name","cost","one","other"] (dv K))
  (zWa:↑li 4 "AboveRule" R.ca ["self","name","cost","one","other"] (dv K)) (zlb:↑li 4 "TurnRule" R.ct ["self","name","cost","part","turning"] (iq K)) (zwb:↑li 4 "Grammar" CG ["self","signs","start","rules"] (iy K R)):↑bj 6 f fd ["_law_signs_here","_law_start","_law_rules"] (lG R CG):=by
 have sc:=sJ;walk_at "f"
 ·obtain⟨l,la,r,st,ts,rs,rfl,a8,o,hg,hn,hsg,hst,g0,q⟩:=h
  have hu:=hr.units;refine⟨_,(ae (q01 3 sc.nd (bI ad))
   (ae (bF PassesOwn.never rfl (bR (al 2)) (ik (n:=5) rfl (aV (q02 4 sc.nd) (aV (q02 5 sc.nd) (aV (q02 6 sc.nd) (aV (q02 7 sc.nd) (aV (q02 8 sc.nd) du))))))
   (ag (bL (aN dz (al 4) ai (aR _))
   (ag (bi (q03 (al 3) (ac (ir zkb (hr.mono b⁻¹) rfl aK (ac (al 5) (ac (al 6) (ac (al 7) ad)))) ad))))
   (ag (bL (aN dz (al 4) ai (aR _))
   (ag (bi (q03 (al 3) (ac (ir zSa (hr.mono b⁻¹) rfl aK (ac (al 5) (ac (al 6) (ac (al 7) (ac (al 8) ad))))) ad))))
   (ag (bL (aN dz (al 4) ai (aR _))
   (ag (bi (q03 (al 3) (ac (ir zWa (hr.mono b⁻¹) rfl aK (ac (al 5) (ac (al 6) (ac (al 7) (ac (al 8) ad))))) ad))))
   (ag (bi (q03 (al 3) (ac (ir zlb (hr.mono b⁻¹) rfl aK (ac (al 5) (ac (al 6) (ac (al 7) (ac (al 8) ad))))) ad)))))))))))
   (ag (aM (ir zwb (hr.mono b⁻¹) rfl aK (ac (@yA _ _ _ _ _ _ _ _ (ac (al 0) ad) rfl rfl) (ac (al 1) (ac (al 3) ad)))))))),?_⟩
  symm;refine⟨Lc _,λM a4=>h1 _ _ ?_⟩;clear h1;generalize z0:aD H M _=H1;obtain⟨s1,e1⟩:=gP a4 z0;symm;refine⟨⟨_,aQ.of (s1 _ _ o.1)⟩,?_⟩;have a7:=o.2.1;refine b5 (xs:=ts.map V.ref) (λi σ I=>az H I/\i<=ts.length/\(∃O:List Addr,I M=some (.lst (O.map V.ref))/\bO R I O (rs.take i))/\∃x4 x5 x6 x7 x8,σ=[some (V.ref la),some (V.str (tx st)),some (V.ref l),some (V.ref M),x4,x5,x6,x7,x8]) ⟨s1,Lc _,⟨[],e1,⟨rfl,λi a r e=>by simp at e⟩⟩,_,_,_,_,_,rfl⟩ (λi σ I _ h=>aQ.of (h.1 _ _ o.1)) ?_ ?_
  ·rintro i x σ I D ⟨sm,_,⟨O,B,hA⟩,x4,x5,x6,x7,x8,rfl⟩
   rw[KQ]at D;obtain⟨t,ht,rfl⟩:=Lf.mp D;have hi:=(KM.mp ht).1;obtain⟨⟨k,v⟩,hr⟩:∃r,rs[i]?=some r:=⟨_,KL ⋯⟩;have a6:=sm _ _ (o.2.2 i t (k,v) ht hr);obtain⟨hk,g,T⟩:=hg _ (KR hr);have U:=cR.of (K:=K) a6;have g:v.good:=g;have bn:v.n.length<=100000:=by have:=T.n;simp only at this;omega
   have b1:v.o1.length<=100000:=by have:=T.o1;simp only at this;omega
   have b2:v.o2.length<=100000:=by have:=T.o2;simp only at this;omega
   have bs:v.sg.length<=100000:=by have:=T.sg;simp only at this;omega
   have b0:=hA.1;rw[Lq]at b0;have a5:rs.take (i+1)=rs.take i++[(k,v)]:=by rw[q0E,hr];rfl
   have fin:∀b j G H2,H2 b=some (.ins (R.at k) j (tM k G v))->H2 G=some (.lst (ao (bT k v)))->G≠M->az I H2->∃xs,H2 M=some (.lst xs)/\xs.length<sizeLine/\az H (aD H2 M (.lst (xs++[V.ref b])))/\i+1<=ts.length/\∃O,aD H2 M (.lst (xs++[V.ref b])) M=some (.lst (O.map V.ref))/\bO R (aD H2 M (.lst (xs++[V.ref b]))) O (rs.take (i+1)):=λb j G H2 hb m z s2=>by
    have h2:=s2 _ _ B;refine⟨_,h2,by rw[KO];exact bc ⋯,bE (sm.trans s2) a4,hi,O++[b],by rw[af,K2];rfl,?_⟩;rw[a5];refine bO.snoc20 ((hA.up s2).put20 h2 ?_) ⟨j,G,by rw[ar (λe=>by rw[e,h2]at hb;cases hb)];exact hb,by rw[ar z];exact m⟩;cases O with
    |nil=>exact .inl rfl
    |cons a O=>exact .inr ⟨a,q0B ..⟩
   have sN:∀{x j:Addr} {C:Addr},I x=none->I j=none->j≠x->∀{G:Addr},aD (aD I j (.own x)) x (.ins C j []) G=none->G≠M:=fun{x j C} D L z {G} m e=>by
    rw[e,ar (aI B D),ar (aI B L),B]at m;cases m
   ext;rcases eM hk with rfl | rfl | rfl | rfl
   ·change cR K I t [.int 0,.str (tx v.n),.int v.c,.str (tx v.sg),.str ""]at U
    refine⟨_,U,rfl,_,_,rfl,_,_,rfl,_,_,rfl,_,_,rfl,_,_,rfl,rfl,rfl,?_⟩;rw[q07 rfl];exact⟨.inl ⟨rfl,_,aQ.of B⟩,λx j D L z=>⟨x,R.cc,j,v.n,v.sg,v.c,rfl,af,rk.i0.cl,rk.a0,bn,bs,g.ok 0,λG H2 S m J Z=>⟨rfl,fin x j G H2 Z J (sN D L z m) (jH D L S)⟩⟩⟩
   ·change cR K I t [.int 1,.str (tx v.n),.int v.c,.str (tx v.o1),.str (tx v.o2)]at U
    refine⟨_,U,rfl,_,_,rfl,_,_,rfl,_,_,rfl,_,_,rfl,_,_,rfl,rfl,rfl,?_⟩;rw[q06 b⁻¹];refine⟨rfl,?_⟩;rw[q07 rfl];exact⟨.inl ⟨rfl,_,aQ.of B⟩,λx j D L z=>⟨x,R.cb,j,v.n,v.o1,v.o2,v.c,rfl,af,rk.i1.cl,rk.a1,bn,b1,b2,g.ok 1,λG H2 S m J Z=>⟨rfl,fin x j G H2 Z J (sN D L z m) (jH D L S)⟩⟩⟩
   ·change cR K I t [.int 2,.str (tx v.n),.int v.c,.str (tx v.o1),.str (tx v.o2)]at U
    refine⟨_,U,rfl,_,_,rfl,_,_,rfl,_,_,rfl,_,_,rfl,_,_,rfl,rfl,rfl,?_⟩;rw[q06 b⁻¹];refine⟨rfl,?_⟩;rw[q06 b⁻¹];refine⟨rfl,?_⟩;rw[q07 rfl];exact⟨.inl ⟨rfl,_,aQ.of B⟩,λx j D L z=>⟨x,R.ca,j,v.n,v.o1,v.o2,v.c,rfl,af,rk.i2.cl,rk.a2,bn,b1,b2,g.ok 2,λG H2 S m J Z=>⟨rfl,fin x j G H2 Z J (sN D L z m) (jH D L S)⟩⟩⟩
   ·change cR K I t [.int 3,.str (tx v.n),.int v.c,.str (tx v.o1),.int v.t]at U
    refine⟨_,U,rfl,_,_,rfl,_,_,rfl,_,_,rfl,_,_,rfl,_,_,rfl,rfl,rfl,?_⟩;rw[q06 b⁻¹];refine⟨rfl,?_⟩;rw[q06 b⁻¹];refine⟨rfl,?_⟩;rw[q06 b⁻¹];exact⟨.inl ⟨rfl,_,aQ.of B⟩,λx j D L z=>⟨x,R.ct,j,v.n,v.o1,v.c,v.t,rfl,af,rk.i3.cl,rk.a3,bn,b1,g.ok 3,λG H2 S m J Z=>⟨rfl,fin x j G H2 Z J (sN D L z m) (jH D L S)⟩⟩⟩
  ·rintro σ I ⟨sm,_,⟨O,B,hA⟩,x4,x5,x6,x7,x8,rfl⟩
   refine h1 _ _ ?_;rw[KO,a7,Lp]at hA;ext;refine⟨rfl,(dq r).map tx,.inl (by rw[<- eB];exact aQ.of (sm _ _ a8)),?_,λx j D a9 z=>?_⟩
   ·have h1:=mq (p:=dq r) (n:=1) λy hy=>by
     obtain⟨c,_,rfl⟩:=Lx.mp hy;exact Lb _
    have h2:(dq r).length=r.length:=by unfold dq;rw[KO]
    have e0:(Str.ofString "").length=0:=rfl;rw[e0];omega
   ·rw[QL.join_nil,wW]
    have Y:az I (aD (aD I j (.own x)) x (.ins CG j [])):=(aj a9).trans (aj (by rw[ar (Ne.symm z)];exact D));refine⟨x,CG,j,M,r,st,O,rs,rfl,af,gk.cl.cl,gk.na,⋯,⋯,Y _ _ B,hA.up Y,λr hr=>(hg r hr).k4,⋯,g0,(λH4 lk pn t S gA _ _ _=>⟨rfl,?_⟩)⟩;exact q x j _ H4 gA.f (sm.trans λb u e=>S b u (aI e D) (Y b u e))
theorem tU{y:Str}(h:y∈(bJ z rs).map (·.1)):(bJ z rs).lookup y=some (dE y rs):=by
 obtain⟨q,a,rfl⟩:=Lx.mp h;exact(DW a).1
abbrev iD:Stmt:=fY 50
inductive gG(R:RC)(CG:Addr)(vs:List V)(H:Hp)(Q:VK)(_E:XK):Prop
 |mk (g dx:Addr) (sg st:LO) (as:LR) (rs:Yaa) (v:V) (_:vs=[.ref g,v]) (_:cT R H CG dx g sg st as rs) (_:((v=.non/\Q (.str (tx st)) H)\/∃z ns,v=.str z/\(bJ (tx st) rs).lookup z=some ns/\∀H',az H H'->Q (.str z) H'))
theorem qA:aG ["grammar","name"] ["grammar","name"] (aq iD):=by walk_at "c"
theorem qx{f:Addr}(F:dG K "name_asked" "name_asked" iD f fd)(nb:NB mg)(cl:jA K CG)(na:aC K CG "signs"/\aC K CG "start"/\aC K CG "kept"/\aC K CG "numbers")(yap:↑hZ 1 CG "numbers_of" ["self","name"] (cZ R CG)):↑bj 2 f fd ["grammar","name"] (gG R CG):=by
 have sc:=qA;walk_at "f"
 ·obtain⟨g,o,j,e,p,m,v,rfl,c,h⟩:=h
  have hu:=hr.units;obtain⟨lk,pn,t,b,hk,hrs,hN,hm⟩:=id c;refine⟨_,(ae (bL (aN jx (al 1) cN (aR _))
   (ag (aM (cq (al 0) rfl)))
   aW)
   (ae (bi (jJ yap (hr.mono b⁻¹) aK (al 0) (ac (al 1) ad)))
   (ag (aM (al 1))))),?_⟩
  ext;rcases h with⟨rfl,q⟩ | ⟨z,ns,rfl,a,n⟩
  ·rw[q07 rfl]
   exact⟨_,_,_,b,cl,na.2.1,_,rfl,q⟩
  ·rw[q06 (λh=>nomatch h)]
   exact⟨_,_,b,rfl,g,o,j,e,p,m,z,rfl,c,ns,a,λl r _ _ k=>n r k⟩
abbrev iC:Stmt:=fY 52
inductive j3(K:W.Frag)(R:RC)(CG:Addr)(vs:List V)(H:Hp)(Q:VK)(_E:XK):Prop
 |mk (g dx a:Addr) (sg st:LO) (as:LR) (rs:Yaa) (nms:List (List Nat)) (p:aL) (r c:Nat) (v:V) (_:vs=[.ref g,.ref a,v]) (_:cT R H CG dx g sg st as rs) (_:(bJ (tx st) rs).map (·.1)=nms.map tx) (_:fq rs nms p r c) (_:H a=some (.lst (ao p))) (_:((v=.non/\∀H' tb,fZ rs nms p r c tb->az H H'->Q (j8 (aF tb (aT p,st))) H')\/∃n,v=.str (tx n)/\n∈nms/\∀H' tb,fZ rs nms p r c tb->az H H'->Q (j8 (aF tb (aT p,n))) H'))
theorem qD:aG ["grammar","picture","name","asked"] ["grammar","picture","name"] (aq iC):=by walk_at "c"
theorem qO{f dT:Addr}(F:zF K "least_cost" "least_cost" iC f fd dT)(nb:NB mg)(yag:↑dF 2 "name_asked" ["grammar","name"] (gG R CG))(yah:↑dF 10 "table_of" ["grammar","picture"] (ge K R CG))(yab:↑dF 1 "shown" ["picture"] (dQ K)):↑bj 11 f fd ["grammar","picture","name"] (j3 K R CG):=by
 have sc:=qD;walk_at "f"
 ·obtain⟨g,O,a,G,u,S,y,k,p,r,c,v,rfl,M,m,z,J,h⟩:=h
  have U:=hr.units;refine⟨_,(ae (q01 3 sc.nd (q00 yag hr (ac (al 0) (ac (al 2) ad))))
   (ag (aM (AK (Lv (LA (by decide:1<=64) _) U) (q00 yah hr (ac (al 0) (ac (al 1) ad))) (bD (ac (q00 yab hr (ac (al 1) ad)) (ac (al 3) ad))) ⟨rfl,rfl,rfl,rfl⟩)))),?_⟩
  ext;have small:eZ p:=eZ.of z.hp (by have:=z.r6;omega) (by have:=z.c6;omega);have b_:∀(n:LO) (H1:Hp),az H H1->(∀H' tb,fZ y k p r c tb->az H H'->Q (j8 (aF tb (aT p,n))) H')->ge K R CG [V.ref g,V.ref a] H1 (λx b=>∃a_1,x=V.ref a_1/\GZ b a_1/\dQ K [V.ref a] b (λj H1=>2<=sizeLine/\∀(p:Addr),H1 p=none->∃o,lM (aD H1 p (HO.tup [j,V.str (tx n)])) a_1 (V.ref p) o/\Q (o.getD V.non) (aD H1 p (HO.tup [j,V.str (tx n)]))) (λx C B=>False)) (λx C B=>False):=λn H1 e q=>by
   refine⟨g,O,a,G,u,S,y,k,p,r,c,rfl,M.up e,m,z,aQ.of (e _ _ J),λd H2 tb hd L hB I=>⟨d,rfl,.inr ⟨_,.inl L⟩,a,p,rfl,(e.trans I) _ _ J,small,au b⁻¹,λD l=>?_⟩⟩;have Z:br (aD H2 D (.tup [V.str (tx (aT p)),V.str (tx n)])) D (aT p,n):=af;refine⟨_,(L.up (aj l)).told.get Z,?_⟩;rw[show((aF tb (aT p,n)).map V.int).getD V.non=j8 (aF tb (aT p,n)) by cases aF tb (aT p,n)<;>rfl];exact q _ tb hB ((e.trans I).trans (aj l))
  refine⟨g,O,G,u,S,y,v,rfl,M,?_⟩;rcases h with⟨rfl,q⟩ | ⟨n,rfl,Y,T⟩
  ·exact .inl ⟨rfl,b_ u H (λ_ _ h=>h) q⟩
  ·have:tx n∈(bJ (tx u) y).map (·.1):=by rw[m];exact Lx.mpr ⟨n,Y,rfl⟩
   exact .inr ⟨tx n,_,rfl,tU this,λH1 e=>b_ n H1 e T⟩
inductive b9 where
 |n0:Int->b9
 |n1:Int->b9->b9
 |n2:Int->b9->b9->b9
def b9.i:b9->Int
 | .n0 i=>i
 | .n1 i _=>i
 | .n2 i _ _=>i
def b9.ps:b9->List b9
 | .n0 _=>[]
 | .n1 _ a=>[a]
 | .n2 _ a b=>[a,b]
def b9.d:b9->Dt
 | .n0 i=>.tup [.int i]
 | .n1 i a=>.tup [.int i,a.d]
 | .n2 i a b=>.tup [.int i,a.d,b.d]
def b9.cnt:b9->Nat
 | .n0 _=>1
 | .n1 _ a=>a.cnt+1
 | .n2 _ a b=>a.cnt+b.cnt+1
def b9.dep:b9->Nat
 | .n0 _=>1
 | .n1 _ a=>a.dep+1
 | .n2 _ a b=>max a.dep b.dep+1
theorem b9.d_eq(t:b9):t.d=.tup (.int t.i::t.ps.map b9.d):=by cases t<;>rfl
theorem b9.val{t:b9}(h:dt H t.d v):∃a vs,v=.ref a/\H a=some (.tup (.int t.i::vs))/\bM H (t.ps.map b9.d) vs:=by
 rw[t.d_eq]at h;unfold dt at h;obtain⟨a,xs,rfl,g,c⟩:=h;obtain⟨x0,j,rfl,b,e⟩:=c.uncons;unfold dt at b;subst b;exact⟨a,j,rfl,g,e⟩
theorem b9.lt{s t:b9}(h:s∈t.ps):s.dep<t.dep/\s.cnt<t.cnt:=by
 cases t with
 |n0 i=>exact nomatch h
 |n1 i a=>rw[KP.mp h];simp only[b9.dep,b9.cnt];omega
 |n2 i a b=>
  rcases K5.mp h with rfl | h
  ·simp only[b9.dep,b9.cnt];omega
  ·rw[KP.mp h];simp only[b9.dep,b9.cnt];omega
theorem b9.plen(t:b9):t.ps.length<=2:=by cases t<;>simp[b9.ps]
theorem b9.cnt1(t:b9):1<=t.cnt:=by cases t<;>simp[b9.cnt]
theorem b9.dep1(t:b9):1<=t.dep:=by cases t<;>simp[b9.dep]
theorem b9.cnt_eq(t:b9):t.cnt=1+(t.ps.map b9.cnt).sum:=by cases t<;>simp[b9.cnt,b9.ps]<;>omega
def eY(ns:LO):List V:=ns.map fun(n:Nat)=>V.int (n:Int)
theorem jC(ns:LO):(eY ns).length=ns.length:=by unfold eY;rw[KO]
theorem zI{ns:LO}{i n:Nat}(h:ns[i]?=some n):(eY ns)[i]?=some (V.int (n:Int)):=by unfold eY;rw[KQ,h];rfl
def f_(rs:Yaa)(n:Nat):Nat:=match rs[n]? with | some r=>(bT r.1 r.2).length | none=>0
theorem uN{rs:Yaa}{n:Nat}{r:Nat×RV}(h:rs[n]?=some r):f_ rs n=(bT r.1 r.2).length:=by unfold f_;rw[h]
theorem Dy(rs:Yaa)(n:Nat):f_ rs n<=2:=by
 unfold f_;cases rs[n]? with
 |none=>exact Lc _
 |some r=>exact oz r.1 r.2
def b9.ns:b9->List Int
 | .n0 i=>[i]
 | .n1 i a=>i::a.ns
 | .n2 i a b=>i::(a.ns++b.ns)
theorem uC:∀(t:b9),t.ns.length=t.cnt
 | .n0 i=>rfl
 | .n1 i a=>by simp[b9.ns,b9.cnt,uC a]
 | .n2 i a b=>by simp[b9.ns,b9.cnt,uC a,uC b]
def Wf(rs:Yaa):b9->Prop
 | .n0 i=>0<=i/\i<rs.length/\f_ rs i.toNat=0
 | .n1 i a=>(0<=i/\i<rs.length/\f_ rs i.toNat=1)/\Wf rs a
 | .n2 i a b=>(0<=i/\i<rs.length/\f_ rs i.toNat=2)/\Wf rs a/\Wf rs b
def b9.nn(t:b9):List Nat:=t.ns.map Int.toNat
theorem GU(t:b9):t.nn=t.i.toNat::(t.ps.map b9.nn).flatten:=by cases t<;>simp[b9.nn,b9.ns,b9.i,b9.ps]
theorem wP(t:b9):t.nn.length=t.cnt:=by unfold b9.nn;rw[KO,uC]
theorem Wf.ns:∀{t:b9},Wf rs t->∀i∈t.ns,0<=i/\i<rs.length
 | .n0 i,w,j,hj=>by rw[KP.mp hj];exact⟨w.1,w.2.1⟩
 | .n1 i a,w,j,hj=>by
  rcases K5.mp hj with rfl | hj
  ·exact⟨w.1.1,w.1.2.1⟩
  ·exact Wf.ns w.2 j hj
 | .n2 i a b,w,j,hj=>by
  rcases K5.mp hj with rfl | hj
  ·exact⟨w.1.1,w.1.2.1⟩
  ·rcases K3.mp hj with hj | hj
   ·exact Wf.ns w.2.1 j hj
   ·exact Wf.ns w.2.2 j hj
theorem fM:∀(t:b9) (ms:LO),Wf rs t->cV (f_ rs) (t.nn++ms)=t.d::cV (f_ rs) ms
 | .n0 i,ms,w=>by
  have e:(b9.n0 i).nn=[i.toNat]:=rfl;rw[e,List.singleton_append,cV,w.2.2,LJ,LK,LH w.1]
  rfl
 | .n1 i a,ms,w=>by
  have e:(b9.n1 i a).nn=i.toNat::a.nn:=rfl;rw[e,List.cons_append,cV,fM a ms w.2,w.1.2.2,LH w.1.1]
  rfl
 | .n2 i a b,ms,w=>by
  have e:(b9.n2 i a b).nn=i.toNat::(a.nn++b.nn):=by simp[b9.nn,b9.ns]
  rw[e,List.cons_append,cV,Ln,fM a _ w.2.1,fM b ms w.2.2,w.1.2.2,LH w.1.1]
  rfl
theorem Wf.nn{t:b9}(w:Wf rs t):∀n∈t.nn,n<rs.length:=λn hn=>by
 unfold b9.nn at hn;obtain⟨i,hi,rfl⟩:=Lx.mp hn;have:=w.ns i hi;omega
theorem lN:∀(t:b9) (ms:LO),Wf rs t->uF (f_ rs) ms->uF (f_ rs) (t.nn++ms)
 | .n0 i,ms,w,h=>by
  have e:(b9.n0 i).nn=[i.toNat]:=rfl;rw[e,List.singleton_append,uF,w.2.2];exact⟨h,Lc _⟩
 | .n1 i a,ms,w,h=>by
  have e:(b9.n1 i a).nn=i.toNat::a.nn:=rfl;rw[e,List.cons_append,uF,fM a ms w.2,w.1.2.2];exact⟨lN a ms w.2 h,by simp⟩
 | .n2 i a b,ms,w,h=>by
  have e:(b9.n2 i a b).nn=i.toNat::(a.nn++b.nn):=by simp[b9.nn,b9.ns]
  rw[e,List.cons_append,uF,Ln,fM a _ w.2.1,fM b ms w.2.2,w.1.2.2];exact⟨lN a _ w.2.1 (lN b ms w.2.2 h),by simp⟩
theorem Dk{H:Hp}{Q:VK}(ha:H a=some (.tup xs))(hb:H b=some (.tup ys))(hx:xs≠[])(hy:ys≠[])(hz:xs.length+ys.length<=1000)(q:∀p,H p=none->Q (.ref p) (aD H p (.tup (xs++ys)))):EH K (.ref a) (.ref b) H Q:=
 ⟨a,b,xs,ys,rfl,rfl,cR.of ha,cR.of hb,hx,au ⋯,λe=>q0Q e hy,λ_=>q⟩
theorem yl(np:Nat->Nat):∀ns:List Nat,(cV np ns).length<=ns.length
 | []=>Lb _
 |n::ns=>by have:=yl np ns;rw[CD,K1];omega
theorem rH{np:Nat->Nat}:∀(k:Nat) {ns:LO},uF np ns->uF np (ns.drop k)
 |0,ns,h=>h
 |k+1,[],h=>h
 |k+1,n::ns,h=>rH k h.1
theorem BW{ns:LO}{i:Nat}(hi:i<ns.length):ns.drop (ns.length-(i+1))=ns[ns.length-1-i]'⋯::ns.drop (ns.length-i):=by
 have h:ns.length-(i+1)<ns.length:=by omega
 rw[q0T h,show ns.length-(i+1)+1=ns.length-i by omega]
 congr 1
 congr 1
 omega
theorem BV{α:Type}(y:α)(ys:List α):(y::ys).reverse[(y::ys).reverse.length-1]?=some y/\(y::ys).reverse.dropLast=ys.reverse:=by
 constructor
 ·rw[Li,La]
  simp
 ·rw[Li,List.dropLast_concat]
theorem AV{Q:VK}(rk:ki K R)(r:fV R H k a v)(q:fO H (bT k v) Q) :
  ∃o,o∈kJ K R/\∃a2,V.ref a=V.ref a2/\∃dx fs,H a2=some (.ins o.1 dx fs)/\fs.lookup (Str.ofString "parts")=none/\o.2 [.ref a] H Q E:=by
 obtain⟨o,j,b,fs,g,e,c⟩:=rD (E:=E) rk r q;exact⟨o,j,a,rfl,b,fs,g,e,c⟩
abbrev tZ:Stmt:=fY 62
inductive vV(R:RC)(C:Addr)(vs:List V)(H:Hp)(Q:VK)(_E:XK):Prop
 |mk (a dx l:Addr) (sg st:LO) (as:LR) (rs:Yaa) (ns:LO) (_:vs=[.ref a,.ref l]) (_:cT R H C dx a sg st as rs) (_:H l=some (.lst (eY ns))) (_:(∀n∈ns,n<rs.length)) (_:uF (f_ rs) ns) (_:(cV (f_ rs) ns).length=1) (_:ns.length<=10000) (_:∀d v H',cV (f_ rs) ns=[d]->dt H' d v->az H H'->Q v H')
theorem A4:aG ["grammar","numbers","waiting","number","tree","part"] ["grammar","numbers"] (aq tZ):=by walk_at "c"
theorem Cy{f:Addr}(F:dG K "grown" "grown" tZ f fd)(nb:NB mg)(rk:ki K R)(yao:↑v3 1 "parts" (kJ K R))(yae:↑hZ 1 C "rule" ["self","k"] (dR R C)):↑bj 2 f fd ["grammar","numbers"] (vV R C):=by
 have sc:=A4;walk_at "f"
 ·obtain⟨a,dx,l,sg,st,as,z,ns,rfl,g,hl,b4,a7,a3,hnl,q⟩:=h
  obtain⟨lk,pn,t,ha,hk,a1,hN,hm⟩:=id g;have hu:=hr.units;refine⟨_,(ae (q01 2 sc.nd (bI ad))
   (ae (bF PassesOwn.never rfl (uD rfl nb.reversed (ac (al 1) ad)) (q02 3 sc.nd)
   (ae (q01 4 sc.nd (bD (ac (al 3) ad)))
   (ae (bF PassesOwn.never rfl (bR (vj yao (hr.mono b⁻¹) aK (jJ yae (hr.mono b⁻¹) aK (al 0) (ac (al 3) ad)))) (q02 5 sc.nd)
   (ag (q01 4 sc.nd (aw Dd (al 4) (bD (ac (Cf PySem.F.plainAttrs_list PySem.F.slot_list_pop PySem.F.type_list_pop Ch (al 2)) ad))))))
   (ag (bi (q03 (al 2) (ac (al 4) ad)))))))
   (ag (aM (aP aX (al 2) ai (λ_ _=>rfl)))))),?_⟩
  symm;refine⟨Lc _,λm S=>h1 _ _ ?_⟩;clear h1;have s1:az H (aD H m (.lst [])):=aj S;have e1:aD H m (.lst []) m=some (.lst []):=af;generalize aD H m (.lst [])=H1 at s1 e1 ⊢;symm;refine⟨_,aQ.of (s1 _ _ hl),?_⟩;refine vH (xs:=eY ns) (λi σ c=>az H c/\(∃u,c m=some (.lst u.reverse)/\bM c (cV (f_ z) (ns.drop (ns.length-i))) u)/\∃x1 x2 x3,σ=[some (.ref a),some (.ref l),some (.ref m),x1,x2,x3]) ⟨s1,⟨[],e1,?_⟩,_,_,_,rfl⟩ ?_ ?_ ?_
  ·rw[Nat.sub_zero,List.drop_length];exact bM.nil
  ·rintro i σ c _ ⟨sm,_⟩
   exact aQ.of (sm _ _ hl)
  ·rintro i x σ H2 hi hx ⟨sm,⟨u,D,hT⟩,x1,x2,x3,rfl⟩
   rw[jC]at hi hx;have b1:x=V.int ((ns[ns.length-1-i]'⋯:Nat):Int):=by
    rw[zI (KL ⋯)]at hx;exact(q0S hx).symm
   subst b1;have a0:=BW hi;have G:=rH (ns.length-(i+1)) a7;have T:=b4 _ (KY (show ns.length-1-i<ns.length by omega));rw[a0]at G;have a8:=yl (f_ z) (ns.drop (ns.length-i));rw[Lr]at a8;rw[a0];generalize ns[ns.length-1-i]'⋯=n at G T ⊢;obtain⟨_,c1⟩:=G;rw[cV];generalize cV (f_ z) (ns.drop (ns.length-i))=PP at hT c1 a8 ⊢;ext;refine⟨au b⁻¹,λp hp=>?_⟩;have s2:az H2 (aD H2 p (.tup [V.int (n:Int)])):=aj hp;have e2:aD H2 p (.tup [V.int (n:Int)]) p=some (.tup [V.int (n:Int)]):=af;generalize aD H2 p (.tup [V.int (n:Int)])=H3 at s2 e2 ⊢;have B:=sm.trans s2;have g3:=g.up B;have b6:n<as.length:=by rw[a1.1];exact T
   have hb:as[n]?=some as[n]:=KL b6;have O:z[n]?=some z[n]:=KL T;have rr:=(a1.2 n _ _ hb O).up B;generalize as[n]=b at hb rr;have a4:=uN O;generalize z[n]=r at O rr a4;refine⟨dx,_,B _ _ ha,rfl,a,dx,sg,st,as,z,n,b,rfl,g3,hb,?_⟩;refine AV rk rr ?_
   ·intro l2 H4 a5 o s4
    have o:H4 l2=some (.lst (ao (bT r.1 r.2))):=o;refine⟨l2,rfl,⟨_,aQ.of o⟩,?_⟩;have b8:l2≠m:=λe=>by rw[e,s2 _ _ D]at a5;cases a5
    refine b5 (xs:=ao (bT r.1 r.2)) (λj σ c=>az H c/\c l2=some (.lst (ao (bT r.1 r.2)))/\(∃(Y:Addr) (U u:List V) (y:Option V),c Y=some (.tup (V.int n::U))/\bM c (PP.take j) U/\c m=some (.lst u.reverse)/\bM c (PP.drop j) u/\σ=[some (V.ref a),some (V.ref l),some (V.ref m),some (V.int n),some (V.ref Y),y])/\j<=f_ z n) ⟨B.trans s4,o,⟨p,[],u,_,s4 _ _ e2,by rw[LJ];exact bM.nil,s4 _ _ (s2 _ _ D),by rw[LK];exact hT.up (dy.of (s2.trans s4)) _,rfl⟩,Lc _⟩ ?_ ?_ ?_
    ·rintro j σ c _ ⟨_,h,_⟩
     exact aQ.of h
    ·rintro j x σ c hx ⟨J,h2,⟨Y,U,u,y,M,hz,L,Z,rfl⟩,hj⟩
     have c0:j<f_ z n:=by have:=(KM.mp hx).1;rw[ak]at this;omega
     have a6:j<PP.length:=by omega
     rw[q0T a6]at Z;obtain⟨v,k,rfl,hv,b0⟩:=Z.uncons;obtain⟨r1,r2⟩:=BV v k;ext;refine⟨.inl ⟨rfl,_,aQ.of L⟩,_,L,_,r1,au b⁻¹,?_⟩;rw[r2];have I:dy c (aD c m (.lst k.reverse)):=dy.put L;have t1:az H (aD c m (.lst k.reverse)):=bE J S;have w1:aD c m (.lst k.reverse) m=some (.lst k.reverse):=af;have l1:aD c m (.lst k.reverse) l2=some (.lst (ao (bT r.1 r.2))):=by rw[ar b8];exact h2
     generalize aD c m (.lst k.reverse)=H6 at I t1 w1 l1 ⊢;intro p1 a2;refine Dk (aj a2 _ _ (I _ _ M)) af (by simp) (by simp) ?_ λp2 o=>?_
     ·have:=hz.length
      rw[Lq]at this;have:=Dy z n;simp;omega
     ·have s7:az H6 (aD (aD H6 p1 (.tup [v])) p2 (.tup ((V.int (n:Int)::U)++[v]))):=(aj a2).trans (aj o)
      have u7:=I.trans (dy.of s7);refine⟨t1.trans s7,s7 _ _ l1,⟨p2,U++[v],by rw[af];rfl,?_,k,s7 _ _ w1,b0.up u7 _,rfl⟩,c0⟩;rw[List.take_succ_eq_append_getElem a6];exact(hz.up u7 _).app (bM.cons (hv.up u7 _) bM.nil)
    ·rintro σ c ⟨J,h2,⟨Y,U,u,y,M,hz,L,Z,rfl⟩,hj⟩
     rw[ak,<- a4]at hz Z;ext;have a9:=Z.length;rw[Lr]at a9;have I:dy c (aD c m (.lst (u.reverse++[V.ref Y]))):=dy.put L;refine⟨.inl ⟨rfl,_,aQ.of L⟩,_,L,?_,bE J S,V.ref Y::u,by rw[af,Li],bM.cons (dt.node (I _ _ M) (hz.up I _)) (Z.up I _)⟩;rw[K7];exact bc ⋯
  ·rintro σ c ⟨sm,⟨u,D,hT⟩,x1,x2,x3,rfl⟩
   rw[jC,Nat.sub_self,LK]at hT;obtain⟨d,hd⟩:∃d,cV (f_ z) ns=[d]:=by
    match cV (f_ z) ns,a3 with
    | [d],_=>exact⟨d,rfl⟩
   rw[hd]at hT;obtain⟨v,r,rfl,hv,b3⟩:=hT.uncons;have b2:=b3.length;have:r=[]:=Lw.mp b2;subst this;refine h1 _ _ ?_;ext;exact⟨_,aQ.of D,v,rfl,q d v c hd hv sm⟩
def iT(rs:Yaa)(T:Ky->Option Int)(q:aL)(n:LO):Option (Nat×List Ky):=match T (aT q,n) with
 |none=>none
 |some v=>(((dE (tx n) rs).flatMap (cE T rs q)).filter λy=>decide (y.1=v)).head?.map λy=>y.2
theorem l_{m:Nat}:m∈dE z rs↔∃x,rs[m]?=some x/\tx x.2.n=z:=by
 unfold dE;rw[List.mem_filterMap]
 constructor
 ·rintro⟨⟨x,i⟩,h1,h2⟩
  have h1:=List.mem_zipIdx_iff_getElem?.mp h1;dsimp only at h1 h2
  split at h2
  ·rename_i e
   cases h2;exact⟨x,h1,e⟩
  ·cases h2
 ·rintro⟨x,h1,h2⟩
  exact⟨(x,m),List.mem_zipIdx_iff_getElem?.mpr h1,by rw[q07 h2]⟩
theorem DJ{q:aL}{n:LO}{v:Int}(E:fq rs nms p a b)(h:fZ rs nms p a b tb)(hq:a_ p a b q)(hv:aF tb (aT q,n)=some v):∃x∈rs,x.2.n=n/\∃w∈bQ x q,bW (aF tb) x.2.c w=some v:=by
 have j:=b7 E.hp E.ns hq;have g:∀{x:Nat×RV} {w:List Ky} {k:Ky} {c:Int},x∈rs->w∈bQ x q->k∈w->Dv rs k c->∃c',c'<=c/\aF tb k=some c':=fun{x w k c} hx hw hk m=>by
  obtain⟨z,o,l,_⟩:=jv E.hp hq (E.gd x hx).good.t0 (E.gd x hx).good.t7 hw hk;obtain⟨D,k2⟩:=k;have l:D=aT z:=l;subst l;exact h.min E o m
 have fin:∀{x:Nat×RV} {w:List Ky} {u:Int},x∈rs->x.2.n=n->w∈bQ x q->bW (aF tb) x.2.c w=some u->u<=v->∃x∈rs,x.2.n=n/\∃w∈bQ x q,bW (aF tb) x.2.c w=some v:=fun{x w u} hx en hw hc hl=>by
  obtain⟨v',C,y⟩:=h.clo q hq x hx w hw u hc;rw[en,hv]at y;cases y;exact⟨x,hx,en,w,hw,by rw[hc,Int.le_antisymm hl C]⟩
 obtain⟨_,_,m,_⟩:=h.key _ _ hv;generalize l:(aT q,n)=k at m;cases m with
 |leaf hx ho hw=>
  injection l with e1 e2
  have e:=j.inj ho e1;subst e;exact fin hx e2.symm hw rfl (Int.le_refl _)
 |one hx ho hw d1=>
  injection l with e1 e2
  have e:=j.inj ho e1;subst e;obtain⟨I,B,r⟩:=g hx hw (by simp) d1;exact fin hx e2.symm hw (by unfold bW;rw[r];rfl) ⋯
 |two hx ho hw d1 d2=>
  injection l with e1 e2
  have e:=j.inj ho e1;subst e;obtain⟨I,B,r⟩:=g hx hw (by simp) d1;obtain⟨c2,l2,G⟩:=g hx hw (K6 _ (KP.mpr rfl)) d2;exact fin hx e2.symm hw (by unfold bW;rw[r];show bW _ _ [_]=_;unfold bW;rw[G];rfl) ⋯
theorem pp{T:Ky->Option Int}{n:LO}{v:Int}{m:Nat}{w:List Ky}(hv:T (aT q,n)=some v)(h:iT rs T q n=some (m,w)):∃x,rs[m]?=some x/\x.2.n=n/\w∈bQ x q/\bW T x.2.c w=some v:=by
 unfold iT at h;rw[hv]at h;obtain⟨y,l,e⟩:=Lf.mp h;have o:=List.mem_of_head? l;obtain⟨h1,h2⟩:=List.mem_filter.mp o;have h2:y.1=v:=by simpa using h2
 obtain⟨j,r,g,b,a⟩:=mG h1;rw[e]at j g b a;obtain⟨x,k,p⟩:=l_.mp j;have u:r=x:=q0S (g.symm.trans k);subst u;exact⟨r,k,eD p,b,by rw[a,h2]⟩
theorem v6{n:LO}{v:Int}(E:fq rs nms p a b)(h:fZ rs nms p a b tb)(hq:a_ p a b q)(hv:aF tb (aT q,n)=some v):∃m w,iT rs (aF tb) q n=some (m,w):=by
 obtain⟨x,j,o,w,k,l⟩:=DJ E h hq hv;obtain⟨m,c⟩:=List.getElem?_of_mem j;have g:=rN (T:=aF tb) (l_.mpr ⟨x,c,by rw[o]⟩:m∈dE (tx n) rs) c k l;have e:(v,m,w)∈((dE (tx n) rs).flatMap (cE (aF tb) rs q)).filter λy=>decide (y.1=v):=List.mem_filter.mpr ⟨g,by simp⟩;unfold iT;rw[hv]
 try dsimp only
 generalize((dE (tx n) rs).flatMap (cE (aF tb) rs q)).filter (λy=>decide (y.1=v))=ys at e ⊢;cases ys with
 |nil=>exact nomatch e
 |cons y ys=>exact⟨_,_,rfl⟩
inductive FT(rs:Yaa)(T:Ky->Option Int):Ky->b9->Prop
 |n0 {q:aL} {n:LO} {m:Nat}:we q->iT rs T q n=some (m,[])->FT rs T (aT q,n) (.n0 (m:Int))
 |n1 {q:aL} {n:LO} {m:Nat} {k:Ky} {a:b9}:we q->iT rs T q n=some (m,[k])->FT rs T k a->FT rs T (aT q,n) (.n1 (m:Int) a)
 |n2 {q:aL} {n:LO} {m:Nat} {k1 k2:Ky} {a b:b9}:we q->iT rs T q n=some (m,[k1,k2])->FT rs T k1 a->FT rs T k2 b->FT rs T (aT q,n) (.n2 (m:Int) a b)
theorem FT.inv{n:LO}{t:b9}(hq:we q)(h:FT rs T (aT q,n) t):∃m w,iT rs T q n=some (m,w)/\t.i=(m:Int)/\((w=[]/\t=.n0 m)\/(∃k a,w=[k]/\t=.n1 m a/\FT rs T k a)\/∃k1 k2 a b,w=[k1,k2]/\t=.n2 m a b/\FT rs T k1 a/\FT rs T k2 b):=by
 generalize c:(aT q,n)=k at h;cases h with
 |n0 ho e=>
  injection c with e1 e2
  have:=hq.inj ho e1;subst this;subst e2
  exact⟨_,_,e,rfl,.inl ⟨rfl,rfl⟩⟩
 |n1 ho e f=>
  injection c with e1 e2
  have:=hq.inj ho e1;subst this;subst e2
  exact⟨_,_,e,rfl,.inr (.inl ⟨_,_,rfl,rfl,f⟩)⟩
 |n2 ho e f g=>
  injection c with e1 e2
  have:=hq.inj ho e1;subst this;subst e2
  exact⟨_,_,e,rfl,.inr (.inr ⟨_,_,_,_,rfl,rfl,f,g⟩)⟩
theorem FT.uniq{t:b9}(h:FT rs T k t):∀{t'},FT rs T k t'->t'=t:=by
 induction h with
 |n0 ho e=>
  intro t' j;obtain⟨m,w,c,_,h | ⟨k,a,h,_⟩ | ⟨o,n,a,b,h,_⟩⟩:=j.inv ho<;>rw[e]at c<;>cases c
  ·exact h.2
  ·cases h
  ·cases h
 |n1 ho e f ih=>
  intro t' j;obtain⟨m,w,c,_,h | ⟨k,a,h,rfl,l⟩ | ⟨o,n,a,b,h,_⟩⟩:=j.inv ho<;>rw[e]at c<;>cases c
  ·cases h.1
  ·cases h;rw[ih l]
  ·cases h
 |n2 ho e f g ih1 ih2=>
  intro t' j;obtain⟨m,w,c,_,h | ⟨k,a,h,rfl,l⟩ | ⟨o,n,a,b,h,rfl,l,p⟩⟩:=j.inv ho<;>rw[e]at c<;>cases c
  ·cases h.1
  ·cases h
  ·cases h;rw[ih1 l,ih2 p]
inductive Ly(rs:Yaa):b9->List Nat->aL->Int->Prop
 |cell {m:Nat} {v:RV}:rs[m]?=some (0,v)->Ly rs (.n0 (m:Int)) v.n [v.sg] v.c
 |turn {m:Nat} {v:RV} {a:b9} {p:aL} {c:Int}:rs[m]?=some (3,v)->Ly rs a v.o1 p c->Ly rs (.n1 (m:Int) a) v.n (turned p v.t.toNat) (v.c+c)
 |pair {m kd:Nat} {v:RV} {a b:b9} {p1 p2 p:aL} {c1 c2:Int}:(kd=1\/kd=2)->rs[m]?=some (kd,v)->Ly rs a v.o1 p1 c1->Ly rs b v.o2 p2 c2->p1=kc (decide (kd=1)) p (if kd=1 then(p1.headD []).length else p1.length)->p2=gE (decide (kd=1)) p (if kd=1 then(p1.headD []).length else p1.length)->Ly rs (.n2 (m:Int) a b) v.n p (v.c+c1+c2)
theorem Ly.wf{t:b9}(h:Ly rs t n p c):Wf rs t:=by
 have a:∀{m:Nat} {x:Nat×RV},rs[m]?=some x->0<=(m:Int)/\(m:Int)<rs.length/\f_ rs (m:Int).toNat=(bT x.1 x.2).length:=fun{m x} e=>
  ⟨⋯,by have:=(KM.mp e).1;omega,by rw[KZ];exact uN e⟩
 induction h with
 |cell e=>exact a e
 |turn e _ ih=>exact⟨a e,ih⟩
 |pair hk e _ _ _ _ ih1 ih2=>
  refine⟨?_,ih1,ih2⟩;rcases hk with rfl | rfl<;>exact a e
def Gm(T:Ky->Option Int)(v:Int)(k:Ky):Nat:=match T k with
 |some u=>if u<=v then 1 else 0
 |none=>0
def xG(T:Ky->Option Int)(L:List Ky)(v:Int):Nat:=(L.map (Gm T v)).sum
theorem Co(T:Ky->Option Int)(L:List Ky)(v:Int):xG T L v<=L.length:=by
 have:=kX (f:=Gm T v) (b:=1) (ks:=L) λx _=>by
  unfold Gm;cases T x with
  |none=>exact Lc _
  |some u=>dsimp only;split<;>omega
 unfold xG;omega
theorem yk{T:Ky->Option Int}{L:List Ky}{k:Ky}{v v':Int}(hk:k∈L)(h:T k=some v)(l:v'<v):xG T L v'+1<=xG T L v:=by
 refine nW (λx _=>?_) hk ?_
 ·unfold Gm
  split
  ·split
   ·rw[q07 ⋯];exact Lb _
   ·exact Lc _
  ·exact Lb _
 ·unfold Gm
  rw[h]
  try dsimp only
  rw[q06 ⋯,q07 (Int.le_refl _)];exact Nat.zero_lt_one
theorem Bw{T:Ky->Option Int}{L:List Ky}{k:Ky}{v:Int}(hk:k∈L)(h:T k=some v):1<=xG T L v:=by
 have:=yk (v':=v-1) hk h ⋯;omega
theorem Eo{T:Ky->Option Int}{L:List Ky}{Bd Bs:Nat}(pos:∀k v,T k=some v->1<=v)
  (hs:∀k∈L,∀v,T k=some v->(∃t,FT rs T k t/\t.dep<=Bd+1/\t.cnt<=Bs+1)\/∃k'∈L,∃v',T k'=some v'/\v'<v/\∀t',FT rs T k' t'->∃t,FT rs T k t/\t.dep=t'.dep+1/\t.cnt=t'.cnt+1) :
  ∀(j:Nat) k,k∈L->∀v,T k=some v->v<=j->∃t,FT rs T k t/\t.dep<=Bd+xG T L v/\t.cnt<=Bs+xG T L v
 |0,k,hk,v,hv,hj=>by have:=pos k v hv;omega
 |j+1,k,hk,v,hv,hj=>by
  rcases hs k hk v hv with⟨t,f,h1,h2⟩ | ⟨k',hk',v',hv',hl,h⟩
  ·have:=Bw hk hv
   exact⟨t,f,⋯,⋯⟩
  ·obtain⟨t',f',h1,h2⟩:=Eo pos hs j k' hk' v' hv' ⋯
   obtain⟨t,f,e1,e2⟩:=h t' f';have:=yk hk hv hl;exact⟨t,f,⋯,⋯⟩
theorem wQ(h:rect q 1 b)(b0:0<b):mirror q=aS 2 q:=by
 have h2:=cK 2 h b⁻¹ b0;rw[q07 rfl,q07 rfl]at h2;refine gv (bZ h) h2 λi j c a=>?_;have h1:=bH h b⁻¹;have e:i=0:=by omega
 subst e;rw[fF h c a];show _=Af (bd (bd q)) 0 j;rw[ce h1 b0 b⁻¹ a,ce h b⁻¹ ⋯ b⁻¹]
theorem pB(h:rect q a 1):mirror q=q:=by
 refine gv (bZ h) h λi j c b=>?_;rw[fF h c b]
 congr 1;omega
theorem wv(h:rect q a b)(a0:0<a)(b0:0<b)(hl:a=1\/b=1){t:Nat}(ht:t<8):∃u,u<4/\turned q u=turned q t:=by
 by_cases c:t<4
 ·exact⟨t,c,rfl⟩
 ·unfold turned
  rw[q07 (show 4<=t by omega)];rcases hl with rfl | rfl
  ·refine⟨(2+t%4)%4,⋯,?_⟩
   rw[q06 ⋯,wQ h b0,cv,Nat.mod_mod];exact(dX h a0 b0 _).symm
  ·refine⟨t%4,⋯,?_⟩
   rw[q06 ⋯,pB h,Nat.mod_mod]
theorem xo(h:rect q 1 1){t:Nat}(ht:t<8):turned q 0=turned q t:=by
 have h2:=cC h b⁻¹ b⁻¹ t;have h3:rect (turned q t) 1 1:=by split at h2<;>exact h2
 have e:bd q=q:=by
  refine gv (bH h b⁻¹) h λi j c b=>?_;rw[ce h b⁻¹ c b]
  congr 1<;>omega
 have a:∀n,aS n q=q:=λn=>by
  induction n with
  |zero=>rfl
  |succ n ih=>show aS n (bd q)=q;rw[e];exact ih
 unfold turned;rw[pB h]
 split<;>split<;>rw[a,a]
theorem BI(hq:rect q a c)(a0:0<a)(c0:0<c){k1 k2:Ky}(hw:[k1,k2]∈bQ r q):∃q1 q2,(∃t l b x,t<b/\b<=a/\l<x/\x<=c/\q1=cut q t l b x)/\(∃t l b x,t<b/\b<=a/\l<x/\x<=c/\q2=cut q t l b x)/\k1.1=aT q1/\k2.1=aT q2/\aH q1+aH q2=aH q/\(a<=aH q1/\a<=aH q2\/c<=aH q1/\c<=aH q2)/\k1.2=r.2.o1/\k2.2=r.2.o2/\(r.1=1\/r.1=2)/\q1=kc (decide (r.1=1)) q (if r.1=1 then(q1.headD []).length else q1.length)/\q2=gE (decide (r.1=1)) q (if r.1=1 then(q1.headD []).length else q1.length):=by
 have cell:∀{t l b x:Nat},t<b->b<=a->l<x->x<=c->aH (cut q t l b x)=(b-t)*(x-l):=by
  intro t l b x h1 h2 h3 h4;have hc:=cn hq h1 h2 h3 h4;unfold aH;rw[hc.1,aO hc ⋯]
 have all:aH q=a*c:=by unfold aH;rw[hq.1,aO hq a0]
 unfold bQ at hw
 split at hw
 ·split at hw
  ·exact nomatch KP.mp hw
  ·exact nomatch hw
 ·rename_i hr
  obtain⟨k0,h0,e⟩:=Lx.mp hw;unfold bP at h0;obtain⟨j,hj,rfl⟩:=Lx.mp h0;have hj:=List.mem_range.mp hj;rw[aO hq a0]at hj
  injection e with e1 e2
  injection e2 with e2 _
  subst e1;subst e2
  have c1:=cell (t:=0) (l:=0) (b:=a) (x:=j+1) a0 (Lb _) ⋯ ⋯;have c2:=cell (t:=0) (l:=j+1) (b:=a) (x:=c) a0 (Lb _) ⋯ (Lb _);have hcut:=aO (cn hq a0 (Lb a) (show 0<j+1 by omega) (show j+1<=c by omega)) ⋯;refine⟨_,_,⟨0,0,a,j+1,a0,Lb _,⋯,⋯,rfl⟩,⟨0,j+1,a,c,a0,Lb _,⋯,Lb _,rfl⟩,q0R aT (jN hq),q0R aT (jR hq),?_,.inl ⟨?_,?_⟩,rfl,rfl,.inl hr,?_,?_⟩
  ·rw[c1,c2,all,<- Nat.mul_add]
   congr 1;omega
  ·rw[c1];exact Nat.le_mul_of_pos_right _ ⋯
  ·rw[c2];exact Nat.le_mul_of_pos_right _ ⋯
  ·rw[hr,q07 rfl,hcut];exact(jN hq).symm
  ·rw[hr,q07 rfl,hcut];exact(jR hq).symm
 ·rename_i hr
  obtain⟨k0,h0,e⟩:=Lx.mp hw;unfold bP at h0;obtain⟨j,hj,rfl⟩:=Lx.mp h0;have hj:=List.mem_range.mp hj;rw[hq.1]at hj
  injection e with e1 e2
  injection e2 with e2 _
  subst e1;subst e2
  have c1:=cell (t:=0) (l:=0) (b:=j+1) (x:=c) ⋯ ⋯ c0 (Lb _);have c2:=cell (t:=j+1) (l:=0) (b:=a) (x:=c) ⋯ (Lb _) c0 (Lb _);have hcut:=(cn hq (show 0<j+1 by omega) (show j+1<=a by omega) c0 (Lb c)).1;refine⟨_,_,⟨0,0,j+1,c,⋯,⋯,c0,Lb _,rfl⟩,⟨j+1,0,a,c,⋯,Lb _,c0,Lb _,rfl⟩,q0R aT (jD hq),q0R aT (jM hq),?_,.inr ⟨?_,?_⟩,rfl,rfl,.inr hr,?_,?_⟩
  ·rw[c1,c2,all,<- Nat.add_mul]
   congr 1;omega
  ·rw[c1];exact Nat.le_mul_of_pos_left _ ⋯
  ·rw[c2];exact Nat.le_mul_of_pos_left _ ⋯
  ·rw[hr,q06 b⁻¹,hcut];exact(jD hq).symm
  ·rw[hr,q06 b⁻¹,hcut];exact(jM hq).symm
 ·exact nomatch KP.mp hw
theorem Dp(h:hU r=true):47∉r:=λh47=>by
 unfold hU at h;have:=(q0O _ _▸h:_/\_).2;unfold kf at this;have:=Lz.mp this 47 h47;exact q0Q this (by decide +kernel)
theorem dJ{n:LO}{v:Int}{m:Nat}{w:List Ky}(E:fq rs nms p a b)(h:fZ rs nms p a b tb)(hq:a_ p a b q)(hv:aF tb (aT q,n)=some v)(hs:iT rs (aF tb) q n=some (m,w)) :
  (∃r,w=[]/\rs[m]?=some (0,r)/\r.n=n/\q=[r.sg]/\v=r.c) \/
  (∃r u,w=[(aT (turned q (di r.t.toNat)),r.o1)]/\rs[m]?=some (3,r)/\r.n=n/\aF tb (aT (turned q (di r.t.toNat)),r.o1)=some u/\v=r.c+u/\u<v/\r.t.toNat<8) \/
  ∃kd r k1 k2 q1 q2 u1 u2,w=[k1,k2]/\(kd=1\/kd=2)/\rs[m]?=some (kd,r)/\r.n=n/\k1=(aT q1,r.o1)/\k2=(aT q2,r.o2)/\a_ p a b q1/\a_ p a b q2/\aF tb k1=some u1/\aF tb k2=some u2/\v=r.c+u1+u2/\aH q1+aH q2=aH q/\(q.length<=aH q1/\q.length<=aH q2\/(q.headD []).length<=aH q1/\(q.headD []).length<=aH q2)/\q1=kc (decide (kd=1)) q (if kd=1 then(q1.headD []).length else q1.length)/\q2=gE (decide (kd=1)) q (if kd=1 then(q1.headD []).length else q1.length):=by
 obtain⟨⟨kd,r⟩,B,R,j,I⟩:=pp hv hs;have gd:=E.gd _ (KR B);obtain⟨a',b',hr,T,b0,_⟩:=hq.rect E.hp;have G:=b7 E.hp E.ns hq;rcases mJ j with rfl | ⟨k,rfl⟩ | ⟨k1,k2,rfl⟩
 ·left
  refine⟨r,rfl,?_⟩;rcases eM gd.k4 with e | e | e | e<;>(simp only at e;subst e)
  ·have g:[]∈(if aT q=r.sg then[([]:List Ky)] else[]):=j
   by_cases x:aT q=r.sg
   ·refine⟨B,R,?_,by cases I;rfl⟩
    have S:aT q=aT [r.sg]:=x;refine G.inj ⟨by simp,λrow o=>?_⟩ S;rw[KP.mp o];exact Dp gd.good.sg
   ·rw[q06 x]at g;exact nomatch g
  ·obtain⟨k,_,e⟩:=Lx.mp (show[]∈(bP true q (q.headD []).length).map λk=>[(k.1,r.o1),(k.2,r.o2)] from j);cases e
  ·obtain⟨k,_,e⟩:=Lx.mp (show[]∈(bP false q q.length).map λk=>[(k.1,r.o1),(k.2,r.o2)] from j);cases e
  ·exact nomatch KP.mp (show([]:List Ky)∈[[(aT (turned q (di r.t.toNat)),r.o1)]] from j)
 ·right;left
  rcases eM gd.k4 with e | e | e | e<;>(simp only at e;subst e)
  ·have g:[k]∈(if aT q=r.sg then[([]:List Ky)] else[]):=j
   by_cases x:aT q=r.sg
   ·rw[q07 x]at g;exact nomatch KP.mp g
   ·rw[q06 x]at g;exact nomatch g
  ·obtain⟨k,_,e⟩:=Lx.mp (show[k]∈(bP true q (q.headD []).length).map λk=>[(k.1,r.o1),(k.2,r.o2)] from j);cases e
  ·obtain⟨k,_,e⟩:=Lx.mp (show[k]∈(bP false q q.length).map λk=>[(k.1,r.o1),(k.2,r.o2)] from j);cases e
  ·have ew:=KP.mp (show[k]∈[[(aT (turned q (di r.t.toNat)),r.o1)]] from j)
   have ek:k=(aT (turned q (di r.t.toNat)),r.o1):=List.head_eq_of_cons_eq ew;subst ek;obtain⟨u,U,e⟩:=lL I;have c1:1<=r.c:=gd.good.c1;have t0:0<=r.t:=gd.good.t0;have t7:r.t<=7:=gd.good.t7;exact⟨r,u,rfl,B,R,U,e,by have e:v=r.c+u:=e;omega,⋯⟩
 ·right;right
  obtain⟨q1,q2,⟨t,l,y,z,g1,g2,Z,Y,S⟩,⟨t',l',y',z',O,M,L,J,e2⟩,f1,f2,f3,f4,f5,f6,f7,f8,f9⟩:=BI hr T b0 j;obtain⟨u1,u2,D,C,e⟩:=p6 I;refine⟨kd,r,k1,k2,q1,q2,u1,u2,rfl,f7,B,R,Prod.ext f1 f5,Prod.ext f2 f6,?_,?_,D,C,e,f3,?_,f8,f9⟩
  ·rw[S];exact hq.cut E.hp hr g1 g2 Z Y
  ·rw[e2];exact hq.cut E.hp hr O M L J
  ·rw[hr.1,aO hr T];exact f4
theorem FT.ly(E:fq rs nms p a b)(h:fZ rs nms p a b tb){k:Ky}{t:b9}(f:FT rs (aF tb) k t):∀q n v,k=(aT q,n)->a_ p a b q->aF tb k=some v->Ly rs t n q v:=by
 induction f with
 |n0 ho hs=>
  intro G I v w c l
  injection w with e1 e2
  have:=ho.inj (b7 E.hp E.ns c) e1;subst this;subst e2
  rcases dJ E h c l hs with⟨r,_,j,o,U,m⟩ | ⟨r,u,e,_⟩ | ⟨_,_,_,_,_,_,_,_,e,_⟩
  ·rw[U,m,<- o];exact .cell j
  ·cases e
  ·cases e
 |n1 ho hs f ih=>
  intro G I v w c l
  injection w with e1 e2
  have:=ho.inj (b7 E.hp E.ns c) e1;subst this;subst e2
  rcases dJ E h c l hs with⟨r,e,_⟩ | ⟨r,u,e,j,o,R,m,hl,x⟩ | ⟨_,_,_,_,_,_,_,_,e,_⟩
  ·cases e
  ·cases e
   have:=ih _ _ u rfl (c.turned E.hp (eu x)) R;have D:=Ly.turn j this;obtain⟨a',b',hr,a0,Z,_⟩:=c.rect E.hp;rw[bK hr a0 Z (eu x) x,kW x,eX]at D;rw[m,<- o];exact D
  ·cases e
 |n2 ho hs f g ih1 ih2=>
  intro G I v w c l
  injection w with e1 e2
  have:=ho.inj (b7 E.hp E.ns c) e1;subst this;subst e2
  rcases dJ E h c l hs with⟨r,e,_⟩ | ⟨r,u,e,_⟩ | ⟨kd,r,k1,k2,q1,q2,L,J,e,S,j,o,C,B,O,M,z,y,m,_,_,Y,T⟩
  ·cases e
  ·cases e
  ·cases e
   rw[m,<- o];exact .pair S j (ih1 _ _ L C O z) (ih2 _ _ J B M y) Y T
theorem uv{ts:LO}{ns:List (List Nat)}{k:Ky}:k∈(ts.flatMap λt=>ns.map λn=>(aT (turned q t),n))↔∃t∈ts,∃n∈ns,k=(aT (turned q t),n):=by
 rw[List.mem_flatMap]
 constructor
 ·rintro⟨t,a,h⟩
  obtain⟨n,b,rfl⟩:=Lx.mp h;exact⟨t,a,n,b,rfl⟩
 ·rintro⟨t,a,n,b,rfl⟩
  exact⟨t,a,Lx.mpr ⟨n,b,rfl⟩⟩
theorem vA(q:aL)(ns:List (List Nat)):∀ts:List Nat,(ts.flatMap λt=>ns.map λn=>(aT (turned q t),n)).length=ts.length*ns.length
 | []=>by simp
 |t::ts=>by rw[List.flatMap_cons,La,vA q ns ts,KO,K1,Nat.add_mul];omega
theorem jL(E:fq rs nms p a b)(h:fZ rs nms p a b tb):∀(w:Nat) (q:aL),aH q<=w->a_ p a b q->∀n v,aF tb (aT q,n)=some v ->
  ∃t,FT rs (aF tb) (aT q,n) t/\t.dep+nms.length*3<=nms.length*(4*aH q)/\t.cnt+nms.length*8<=nms.length*(9*aH q)
 |0,q,hw,hq,n,v,hv=>by have:=fG E.hp hq;omega
 |w+1,q,hw,hq,n,v,hv=>by
  have pos:∀k v,aF tb k=some v->1<=v:=λk v hv=>(h.key k v hv).2.2.2;obtain⟨a',b',hr,a0,b0,_⟩:=hq.rect E.hp;have hok:=b7 E.hp E.ns hq;have hn:=(h.key _ _ hv).2.1;have all:aH q=a'*b':=by unfold aH;rw[hr.1,aO hr a0]
  have N1:1<=nms.length:=List.length_pos_of_mem hn;have go:∀(o:LO) (Bd Bs:Nat),0∈o->(∀t∈o,t<8)->(∀t,t<8->∃u∈o,turned q u=turned q t) ->
    (∀j g S R J I:Nat,1<=j->1<=g->j+g=aH q->(min a' b'<=j/\min a' b'<=g)->S+nms.length*3<=nms.length*(4*j)->R+nms.length*3<=nms.length*(4*g)->J+nms.length*8<=nms.length*(9*j)->I+nms.length*8<=nms.length*(9*g)->max S R<=Bd/\J+I<=Bs) ->
    ∃t,FT rs (aF tb) (aT q,n) t/\t.dep<=Bd+o.length*nms.length/\t.cnt<=Bs+o.length*nms.length:=by
   intro o Bd Bs h0 h8 Z hB;have hs:∀k∈(o.flatMap λt=>nms.map λn=>(aT (turned q t),n)),∀v,aF tb k=some v->(∃t,FT rs (aF tb) k t/\t.dep<=Bd+1/\t.cnt<=Bs+1)\/∃k'∈(o.flatMap λt=>nms.map λn=>(aT (turned q t),n)),∃v',aF tb k'=some v'/\v'<v/\∀t',FT rs (aF tb) k' t'->∃t,FT rs (aF tb) k t/\t.dep=t'.dep+1/\t.cnt=t'.cnt+1:=by
    intro k hk v hv;obtain⟨t,B,n,hn,rfl⟩:=uv.mp hk;have U:=h8 t B;have L:=hq.turned E.hp U;have l:=b7 E.hp E.ns L;have a5:=dW hr a0 b0 t;have Y:=cC hr a0 b0 t;have tl:=Y.1;have th:=aO Y (by split<;>assumption);obtain⟨m,w',C⟩:=v6 E h L hv;rcases dJ E h L hv C with⟨r,rfl,_⟩ | ⟨r,u,rfl,hx,en,hu,ev,hl,a4⟩ | ⟨kd,r,k1,k2,q1,q2,u1,u2,rfl,hkd,hx,en,rfl,rfl,J,I,a2,a1,ev,hc,hm,_⟩
    ·exact .inl ⟨_,.n0 l C,by show 1<=_;omega,by show 1<=_;omega⟩
    ·refine .inr ⟨_,uv.mpr ?_,u,hu,hl,λt' f'=>⟨_,.n1 l C f',rfl,rfl⟩⟩
     have b8:=eu a4;have e:=bK hr a0 b0 U b8;have a8:after t (di r.t.toNat)<8:=by unfold after;split<;>omega
     obtain⟨u',a3,e'⟩:=Z _ a8;exact⟨u',a3,r.o1,(h.key _ _ hu).2.1,by rw[e,e']⟩
    ·left
     have p1:=fG E.hp J;have p2:=fG E.hp I;obtain⟨t1,f1,S,j⟩:=jL E h w q1 ⋯ J _ u1 a2;obtain⟨t2,f2,R,g⟩:=jL E h w q2 ⋯ I _ u2 a1;have:=hB _ _ _ _ _ _ p1 p2 (by rw[hc,a5]) (by rw[tl,th]at hm;split at hm<;>omega) S R j g;exact⟨_,.n2 l C f1 f2,by show max t1.dep t2.dep+1<=_;omega,by show t1.cnt+t2.cnt+1<=_;omega⟩
   have hk:(aT q,n)∈(o.flatMap λt=>nms.map λn=>(aT (turned q t),n)):=uv.mpr ⟨0,h0,n,hn,rfl⟩;obtain⟨t,f,h1,h2⟩:=Eo pos hs v.toNat _ hk v hv (by have:=pos _ _ hv;omega);have:=Co (aF tb) (o.flatMap λt=>nms.map λn=>(aT (turned q t),n)) v;rw[vA]at this;exact⟨t,f,⋯,⋯⟩
  by_cases h1:aH q=1
  ·have ab:a'=1/\b'=1:=by
    have:=Nat.le_mul_of_pos_right a' b0;have:=Nat.le_mul_of_pos_left b' a0;omega
   obtain⟨rfl,rfl⟩:=ab;obtain⟨t,f,h2,h3⟩:=go [0] 0 0 (by simp) (by simp) (λt B=>⟨0,by simp,xo hr B⟩) (λj g _ _ _ _ O M c=>by omega);rw[h1];simp only[q0Z,Nat.one_mul]at h2 h3;exact⟨t,f,⋯,⋯⟩
  ·have w2:2<=aH q:=by have:=fG E.hp hq;omega
   generalize ew:aH q=W at *;have D:∀x y z:Nat,x+y=z->nms.length*(4*x)+nms.length*(4*y)=nms.length*(4*z):=λx y z e=>by rw[<- Nat.mul_add,<- e,Nat.mul_add 4]
   have T:∀x y z:Nat,x+y=z->nms.length*(9*x)+nms.length*(9*y)=nms.length*(9*z):=λx y z e=>by rw[<- Nat.mul_add,<- e,Nat.mul_add 9]
   have mono:∀x:Nat,1<=x->nms.length*4<=nms.length*(4*x):=λx hx=>Nat.mul_le_mul_left _ ⋯;have G:∀x:Nat,2<=x->nms.length*8<=nms.length*(4*x):=λx hx=>Nat.mul_le_mul_left _ ⋯;have mono9:nms.length*18<=nms.length*(9*W):=Nat.mul_le_mul_left _ ⋯;have m2:=G W w2
   by_cases hl:a'=1\/b'=1
   ·obtain⟨t,f,h2,h3⟩:=go [0,1,2,3] (nms.length*(4*W)-nms.length*7) (nms.length*(9*W)-nms.length*16) (by simp) (by simp) (λt B=>by
     obtain⟨u,hu,e⟩:=wv hr a0 b0 hl B;exact⟨u,by simp;omega,e⟩) (λj g S R J I O M c _ e1 e2 e3 e4=>by
     have:=D _ _ _ c;have:=T _ _ _ c;have:=mono j O;have:=mono g M;omega)
    simp only[K1,List.length_nil]at h2 h3;exact⟨t,f,⋯,⋯⟩
   ·obtain⟨t,f,h2,h3⟩:=go (List.range 8) (nms.length*(4*W)-nms.length*11) (nms.length*(9*W)-nms.length*16) (by simp) (λt B=>List.mem_range.mp B) (λt B=>⟨t,List.mem_range.mpr B,rfl⟩) (λj g S R J I O M c h4' e1 e2 e3 e4=>by
     have:=D _ _ _ c;have:=T _ _ _ c;have:=G j ⋯;have:=G g ⋯;omega)
    rw[q0J]at h2 h3;have:4<=W:=by rw[all];exact Nat.mul_le_mul (show 2<=a' by omega) (show 2<=b' by omega)
    have:=Nat.mul_le_mul_left nms.length (show 16<=4*W by omega);exact⟨t,f,⋯,⋯⟩
theorem DK{α β:Type}{xs:List α}{ys:List β}{i:Nat}{x:α×β}(h:(xs.zip ys)[i]?=some x):xs[i]?=some x.1/\ys[i]?=some x.2:=by
 rw[List.getElem?_zip_eq_some]at h;exact h
theorem Cz(v:Int):∀(bs:LR) (ys:List (Int×Nat×List Ky)),bs.length=ys.length->(bs.zip ys).filterMap (λx=>if x.2.1=v then some x.2.2 else none)=(ys.filter λy=>decide (y.1=v)).map λy=>y.2
 | [],[],_=>rfl
 | [],_::_,h=>nomatch h
 |_::_,[],h=>nomatch h
 |b::bs,y::ys,h=>by
  rw[List.zip_cons_cons,q0U,List.filter_cons];have ih:=Cz v bs ys (Nat.succ.inj h)
  by_cases e:y.1=v
  ·simp only[e,q07,decide_true,Lh];rw[ih]
  ·simp only[e,if_false,decide_false,q0a];exact ih
theorem wK(c:Nat){rows:List (List Nat)}(h:rows≠[])(hf:∀p∈rows,c∉p):SpM.parts c (SpM.glue c rows)=rows:=by
 obtain⟨h1,h2,b⟩:=SpM.fold_spec c (SpM.glue c rows) [[]] (by simp) (by simp);have a:SpM.glue c (SpM.parts c (SpM.glue c rows))=SpM.glue c rows:=by
  unfold SpM.parts;rw[b];simp[SpM.glue]
 exact SpM.glue_inj c h1 h h2 hf a
abbrev iu:Stmt:=fY 65
def mV(H0 H:Hp)(b:Addr)(y:Nat×List Ky):Prop:=∃lw,H0 lw=none/\H b=some (.tup [.int (y.1:Int),.ref lw])/\iO H lw y.2
theorem mV.up{H0:Hp}(h:mV H0 H b y)(s:az H H'):mV H0 H' b y:=let ⟨lw,h0,h1,h2⟩:=h;⟨lw,h0,s _ _ h1,kF h2 s⟩
inductive jZ(K:W.Frag)(R:RC)(CG:Addr)(vs:List V)(H:Hp)(Q:VK)(_E:XK):Prop
 |mk (g dx d kb:Addr) (sg st:LO) (as:LR) (rs:Yaa) (nms:List (List Nat)) (p q:aL) (r c:Nat) (tb:Tb) (n:LO) (v:Int) (_:vs=[.ref g,.ref d,.ref kb]) (_:cT R H CG dx g sg st as rs) (_:(bJ (tx st) rs).map (·.1)=nms.map tx) (_:fq rs nms p r c) (_:cB H d tb) (_:fZ rs nms p r c tb) (_:br H kb (aT q,n)) (_:a_ p r c q) (_:aF tb (aT q,n)=some v) (_:∀m w b H',iT rs (aF tb) q n=some (m,w)->mV H H' b (m,w)->az H H'->Q (.ref b) H')
theorem qQ:aG ["grammar","told","key","cuts","found"] ["grammar","told","key"] (aq iu):=by walk_at "c"
theorem qC{f:Addr}(F:dG K "first_step" "first_step" iu f fd)(nb:NB mg)(icC:jn K CC)(naC:Dg K CC)(yap:↑hZ 1 CG "numbers_of" ["self","name"] (cZ R CG))(yai:↑li 3 "Cuts" CC ["self","picture"] (fC K))(yak:↑dF 6 "coming" ["grammar","numbers","cuts","told"] (lZ R CG CC)):↑bj 7 f fd ["grammar","told","key"] (jZ K R CG):=by
 have sc:=qQ;walk_at "f"
 ·obtain⟨g,dx,d,kb,sg,st,as,D,nms,p,q,r,c,tb,n,v,rfl,hG,c0,o,hT,hB,hk,hq,hv,Q0⟩:=h
  have hu:=hr.units;refine⟨_,(ae (q01 3 sc.nd (ir yai (hr.mono b⁻¹) rfl aK (ac (cP PySem.F.plainAttrs_str PySem.F.slot_str_split PySem.F.type_str_split BD (aP aU (al 2) ai (λ_ _=>rfl)) (fU ad)) ad)))
   (ae (q01 4 sc.nd (q00 yak hr (ac (al 0) (ac (jJ yap (hr.mono b⁻¹) aK (al 0) (ac (aP aU (al 2) ai (λ_ _=>rfl)) ad)) (ac (al 3) (ac (al 1) ad))))))
   (ag (aM (aP aX (cH ["cost","number","way"] [1,2] rfl (bY.of f⁻¹) f⁻¹ (bR (al 4))
    (λ_ _ _ _=>(lF (K:=K) (n:=3) rfl rfl (aV (ay (i:=0) (by show(["cost","number","way","told","key"]:List Str).Nodup;decide +kernel) rfl (Or.inl rfl)) (aV (ay (i:=1) (by show(["cost","number","way","told","key"]:List Str).Nodup;decide +kernel) rfl (Or.inl rfl)) (aV (ay (i:=2) (by show(["cost","number","way","told","key"]:List Str).Nodup;decide +kernel) rfl (Or.inl rfl)) du))))) (λ_ _ _ _=>(n_ (aN dz (al 0) (lD (Lv (LA (by decide:1<=64) _) hu) (al 3) (al 4) (λ_ _=>rfl)) (aR _)))) (λ_ _ _ _=>(bD (ac (al 1) (ac (al 2) ad))))) ai (λ_ _=>rfl)))))),?_⟩
  symm;have a2:=b7 o.hp o.ns hq;obtain⟨a1,b1,j⟩:=i9 o.hp o.r6 o.c6 hq;have c9:(aT q).length<=1000:=by
   show(SpM.glue 47 q).length<=1000;have:=SpM.glue_len 47 (rows:=q) (n:=b1) (λr hr=>Nat.le_of_eq (j.rc.2 r hr));rw[j.rc.1]at this;have:=j.r6;have:=j.c6;have:a1*(b1+1)<=6*7:=Nat.mul_le_mul ⋯ ⋯;omega
  refine⟨_,cR.of hk,_,rfl,rfl,aT q,rfl,47,rfl,c9,λlp a4 x S k l a3=>?_⟩;rw[wK 47 a2.1 a2.2]at k l ⊢;generalize z0:aD H lp _=H9 at k l ⊢;obtain⟨s9,a8⟩:=gP a4 z0;have G:az H9 (aD (aD H9 S (.own x)) x (.ins CC S [])):=(aj l).trans (aj (by rw[ar (Ne.symm a3)];exact k));refine⟨x,CC,S,lp,q,a1,b1,rfl,af,icC.cl,naC,G _ _ a8,j,λH3 hC sx=>⟨rfl,h1 _ _ ?_⟩⟩;clear h1;have Z:az H H3:=s9.trans λy u e=>sx y u (aI e k) (G y u e);clear sx G a8 s9 z0 a3 l k a4;have O:=hG.up Z;obtain⟨lk,pn,t0,ha,hkk,hrs,hN,hmm⟩:=id O;have b8:=(hB.key _ _ hv).2.1;have c1:tx n∈(bJ (tx st) D).map (·.1):=by rw[c0];exact Lx.mpr ⟨n,b8,rfl⟩
  symm;have c2:(dE (tx n) D).length<=100:=by
   unfold dE;refine Lj (List.length_filterMap_le _ _) ?_;rw[List.length_zipIdx];have:=o.r24;omega
  refine⟨dx,_,ha,rfl,_,cR.of (Z _ _ hk),_,rfl,g,dx,sg,st,as,D,tx n,rfl,O,_,tU c1,λln H4 hln d1 Y=>?_⟩;refine⟨g,dx,ln,x,d,sg,st,as,D,dE (tx n) D,q,a1,b1,aF tb,rfl,O.up Y,o.gd,d1,λm hm=>?_,c2,hC.up Y,j,(hT.up (Z.trans Y)).told,λlf H5 hlf hL s5=>h1 _ _ ?_⟩
  ·obtain⟨x,k,_⟩:=l_.mp hm
   exact(KM.mp k).1
  clear h1;have sA:=Z.trans (Y.trans s5);obtain⟨bs,a7,hA⟩:=hL;ext;have b2:=iG (T:=aF tb) j (λr hr=>(o.gd r hr).k4) (dE (tx n) D);obtain⟨m,w',a0⟩:=v6 o hB hq hv;have a:=a0;unfold iT at a;rw[hv]at a;dsimp only at a;generalize(dE (tx n) D).flatMap (cE (aF tb) D q)=ys at hA b2 a;have d0:=hA.1;refine⟨⟨_,aQ.of a7⟩,?_⟩;have a6:(bs.zip ys).map (λx=>V.ref x.1)=bs.map V.ref:=by
   rw[show(λx:Addr×(Int×Nat×List Ky)=>V.ref x.1)=V.ref∘Prod.fst from rfl,<- K4,List.map_fst_zip ⋯]
  refine m6 (mV H) mV.up (as:=bs.zip ys) (emb:=λx=>V.ref x.1) (f:=λx=>if x.2.1=v then some x.2.2 else none) (λσ=>∃x y z,σ=[x,y,z,some (V.ref d),some (V.ref kb)]) ⟨_,_,_,rfl⟩ (λH' s'=>by rw[a6];exact aQ.of (s' _ _ a7)) (by rw[q0N];omega) ?_ ?_
  ·rintro i x k σ H6 M1 M0 ⟨x1,x2,x3,rfl⟩ C k1 k0
   obtain⟨b4,b3⟩:=DK k;obtain⟨lw,L,M,I⟩:=hA.2 i x.1 x.2 b4 b3
   replace M:=C _ _ M
   replace I:=kF I C
   replace L:=(Z.trans Y).free L
   have hg:=((hT.up (sA.trans C)).told).get (br.up hk (sA.trans C));rw[hv]at hg;ext;refine⟨_,cR.of M,rfl,_,_,rfl,_,_,rfl,_,_,rfl,rfl,_,hg,?_⟩;refine⟨rfl,cw (λe=>?_) λe=>?_⟩
   ·refine⟨au b⁻¹,λtp J=>k1 tp x.2.2 _ _ (by rw[q07 (V.int.inj e)]) ⟨lw,L,af,kF I (aj J)⟩ (C.trans (aj J)) (aj J) ⟨_,_,_,rfl⟩⟩
   ·exact k0 _ _ (by rw[q06 (λz=>e (q0R V.int z))]) C (az.refl _) ⟨_,_,_,rfl⟩
  ·intro a9 H6 C B l6 a5
   have e2:(bs.zip ys).filterMap (λx=>if x.2.1=v then some x.2.2 else none)=(ys.filter λy=>decide (y.1=v)).map λy=>y.2:=Cz v bs ys d0;rw[e2]at B;obtain⟨y,hy,ey⟩:=Lf.mp a;obtain⟨U,b0⟩:∃U,(ys.filter λy=>decide (y.1=v))=y::U:=by
    generalize(ys.filter λy=>decide (y.1=v))=zs at hy;cases zs with
    |nil=>cases hy
    |cons z zs=>cases hy;exact⟨_,rfl⟩
   rw[b0,Lh,ey]at B;obtain⟨b,hb⟩:∃b,a9[0]?=some b:=⟨_,KL (by have:=B.1;simp at this;omega)⟩;have b6:=B.2 0 b (m,w') hb rfl;refine⟨_,aQ.of af,_,(show i6 (a9.map V.ref) ((0:Nat):Int)=_ from bo (by rw[KQ,hb];rfl)),Q0 m w' b _ a0 (b6.up (aj a5)) (sA.trans (C.trans (aj a5)))⟩
theorem FT.parts{n:LO}{v:Int}{t:b9}{m:Nat}{w:List Ky}(f:FT rs (aF tb) (aT q,n) t)(E:fq rs nms p a b)(h:fZ rs nms p a b tb)(hq:a_ p a b q)(hv:aF tb (aT q,n)=some v)(hs:iT rs (aF tb) q n=some (m,w)) :
  t.i=(m:Int)/\w.length=t.ps.length/\∀(j:Nat) k s,w[j]?=some k->t.ps[j]?=some s->FT rs (aF tb) k s/\∃q' n' v',k=(aT q',n')/\a_ p a b q'/\aF tb k=some v':=by
 obtain⟨m',w',o,Z,R⟩:=f.inv (b7 E.hp E.ns hq);rw[hs]at o;cases o;refine⟨Z,?_⟩;rcases R with⟨rfl,rfl⟩ | ⟨k,s,rfl,rfl,g⟩ | ⟨k1,k2,s1,s2,rfl,rfl,U,T⟩
 ·exact⟨rfl,λj k s e=>by simp at e⟩
 ·refine⟨rfl,λj L J c l=>?_⟩
  rcases dJ E h hq hv hs with⟨r,e,_⟩ | ⟨r,u,e,M,Y,O,ev,hl,S⟩ | ⟨_,_,_,_,_,_,_,_,e,_⟩
  ·cases e
  ·cases e
   match j,c,l with
   |0,c,l=>
    cases c;cases l
    exact⟨g,_,_,u,rfl,hq.turned E.hp (eu S),O⟩
   |j+1,c,l=>simp at c
  ·cases e
 ·refine⟨rfl,λj L J c l=>?_⟩
  rcases dJ E h hq hv hs with⟨r,e,_⟩ | ⟨r,u,e,_⟩ | ⟨kd,r,k1',k2',q1,q2,I,G,e,hk,M,Y,D,C,y,x,B,z,_⟩
  ·cases e
  ·cases e
  ·cases e
   match j,c,l with
   |0,c,l=>
    cases c;cases l
    exact⟨U,_,_,I,D,y,B⟩
   |1,c,l=>
    cases c;cases l
    exact⟨T,_,_,G,C,x,z⟩
   |j+2,c,l=>simp at c
structure zH where
 a:Addr
 b:Addr
 q:aL
 n:List Nat
 d:Nat
 t:b9
def zH.at(rs:Yaa)(p:aL)(r c:Nat)(tb:Tb)(H:Hp)(x:zH):Prop:=H x.a=some (.tup [.ref x.b,.int (x.d:Int)])/\br H x.b (aT x.q,x.n)/\a_ p r c x.q/\(∃v,aF tb (aT x.q,x.n)=some v)/\FT rs (aF tb) (aT x.q,x.n) x.t/\x.d+x.t.dep<=61
theorem zH.at.up{x:zH}(h:x.at rs p r c tb H)(s:dy H H'):x.at rs p r c tb H':=⟨s _ _ h.1,s _ _ h.2.1,h.2.2⟩
def Em(xs:List zH):List Nat:=xs.flatMap λx=>x.t.nn
def io(xs:List zH):Nat:=(xs.map λx=>x.t.cnt).sum
theorem yh:∀xs:List zH,(Em xs).length=io xs
 | []=>rfl
 |x::xs=>by
  have:=yh xs;unfold Em io at *;rw[List.flatMap_cons,La,wP,Lh,List.sum_cons,this]
theorem o8:∀(xs:List zH),xs.length<=io xs
 | []=>by simp[io]
 |x::xs=>by have:=o8 xs;have:=x.t.cnt1;unfold io at *;simp;omega
theorem pH(xs ys:List zH):io (xs++ys)=io xs+io ys:=by unfold io;rw[K2,List.sum_append]
theorem vC(x:zH):io [x]=x.t.cnt:=by unfold io;simp
theorem zK{tb:TS}{σ:St}(h:∀tb',tb'=tb->qc c tb' D σ H):qc c tb D σ H:=h tb rfl
structure GG(rs:Yaa)(p:aL)(r c:Nat)(tb:Tb)(t:b9)(H3:Hp)(ln lw:Addr)(m:Nat)(H':Hp)(ns:LO)(xs:List zH):Prop where
 sm:az H3 H'
 ne:ln≠lw
 hn:H' ln=some (.lst (eY ns))
 hw:H' lw=some (.lst (xs.map λx=>V.ref x.a))
 at_:∀x∈xs,x.at rs p r c tb H'
 nn:t.nn=ns++Em xs.reverse
 m_:m=io xs
theorem GG.len{t:b9}{ln lw:Addr}{ns:LO}(h:GG rs p r c tb t H3 ln lw m H' ns xs):ns.length+io xs=t.cnt:=by
 have e:=q0R List.length h.nn;rw[wP,La,yh]at e;have:io xs.reverse=io xs:=by unfold io;rw[List.map_reverse,List.sum_reverse]
 omega
abbrev iL:Stmt:=fY 64
inductive eG(K:W.Frag)(R:RC)(CG:Addr)(vs:List V)(H:Hp)(Q:VK)(_E:XK):Prop
 |mk (g dx a:Addr) (sg st:LO) (as:LR) (rs:Yaa) (nms:List (List Nat)) (p:aL) (r c:Nat) (n:LO) (v:V) (_:vs=[.ref g,.ref a,v]) (_:cT R H CG dx g sg st as rs) (_:(bJ (tx st) rs).map (·.1)=nms.map tx) (_:fq rs nms p r c) (_:H a=some (.lst (ao p))) (_:(v=.non/\n=st\/v=.str (tx n)/\n∈nms)) (_:nms.length*(4*aH p)<=60+nms.length*3) (_:nms.length*(9*aH p)<=200+nms.length*8) (_:∀tb,fZ rs nms p r c tb->(aF tb (aT p,n)=none->∀H',az H H'->Q .non H')/\∀t,FT rs (aF tb) (aT p,n) t->∀u x H',aF tb (aT p,n)=some u->dt H' t.d x->az H H'->Q x H')
theorem ql:aG ["grammar","picture","name","top","told","numbers","wanted","here","step","key"] ["grammar","picture","name"] (aq iL):=by walk_at "c"
theorem j0{f dT:Addr}(F:zF K "first_tree" "first_tree" iL f fd dT)(nb:NB mg){tk1 tk2:Tok}(yar:mg "MOST_NUMBERS"=some (.int 200 tk1))(yat:mg "MOST_WITHIN"=some (.int 60 tk2))(yag:↑dF 2 "name_asked" ["grammar","name"] (gG R CG))(yab:↑dF 1 "shown" ["picture"] (dQ K))(yah:↑dF 10 "table_of" ["grammar","picture"] (ge K R CG))(yas:↑dF 7 "first_step" ["grammar","told","key"] (jZ K R CG))(yau:↑dF 2 "grown" ["grammar","numbers"] (vV R CG)):↑bj 11 f fd ["grammar","picture","name"] (eG K R CG):=by
 have sc:=ql;walk_at "f"
 ·obtain⟨g,dx,a,sg,st,as,rs,f4,p,r,c,n,v,rfl,hG,d7,hE,ha,hv,hd60,hc200,Q0⟩:=h
  have hu:=hr.units;refine⟨_,(ae (q01 3 sc.nd (bD (ac (q00 yab hr (ac (al 1) ad)) (ac (q00 yag hr (ac (al 0) (ac (al 2) ad))) ad))))
   (ae (q01 4 sc.nd (q00 yah hr (ac (al 0) (ac (al 1) ad))))
   (ae (bL (mD (jG (Lv (LA (by decide:1<=64) _) hu) (al 3) (al 4)) (by with_unfolding_all rfl))
   (ag (aM cN))
   aW)
   (ae (q01 5 sc.nd (bI ad))
   (ae (q01 6 sc.nd (bI (ac (bD (ac (al 3) (bN ad))) ad)))
   (ae (wd PassesOwn.never (aN (p_ hu) (al 6) (bI ad) (aR _)) (ae (q01 7 sc.nd (Cf PySem.F.plainAttrs_list PySem.F.slot_list_pop PySem.F.type_list_pop Ch (al 6)))
   (ae (q01 8 sc.nd (q00 yas hr (ac (al 0) (ac (al 4) (ac (aP aU (al 7) ai (λ_ _=>rfl)) ad)))))
   (ae (bi (q03 (al 5) (ac (aP aU (al 8) ai (λ_ _=>rfl)) ad)))
   (ae (bL (PW.pt (kh (aN (bC.m0 lK) (aE aZ rfl nb.len ba (ac (al 5) ad)) (cW (v:=.int 200) rfl yar ⟨_,rfl⟩) (aR _)) (iK (aN (bC.m0 lK) (aP aU (al 7) ai (λ_ _=>rfl)) (cW (v:=.int 60) rfl yat ⟨_,rfl⟩) (aR _)))))
   (ag dU)
   aW)
   (ag (bF PassesOwn.never rfl (uD rfl nb.reversed (ac (aP aU (al 8) ai (λ_ _=>rfl)) ad)) (q02 9 sc.nd)
   (ag (bi (q03 (al 6) (ac (bD (ac (al 9) (ac (aw (bC.m0 bU) (aP aU (al 7) ai (λ_ _=>rfl)) ai) ad))) ad)))))))))))
   (ag (aM (q00 yau hr (ac (al 0) (ac (al 5) ad))))))))))),?_⟩
  have small:eZ p:=eZ.of hE.hp (by have:=hE.r6;omega) (by have:=hE.c6;omega);symm;have b_:∀H1,az H H1->2<=sizeLine/\∀tp,H1 tp=none->N1 [some (V.ref g),some (V.ref a),some v,some (V.ref tp),none,none,none,none,none,none] (aD H1 tp (.tup [V.str (tx (aT p)),V.str (tx n)])):=by
   intro H1 s1;refine⟨au b⁻¹,λtp g4=>h1 _ _ ?_⟩;clear h1;generalize z0:aD H1 tp _=H2;obtain⟨s2,e2⟩:=gP g4 z0;have hk:br H2 tp (aT p,n):=e2;have sA:=s1.trans s2;clear s1 s2 e2 z0 g4;symm;refine⟨g,dx,a,sg,st,as,rs,f4,p,r,c,rfl,hG.up sA,d7,hE,aQ.of (sA _ _ ha),λd H3 tb hd hT hB s3=>h1 _ _ ?_⟩;clear h1;have sB:=sA.trans s3;have h5:=hk.up s3;obtain⟨Q1,Q2⟩:=Q0 tb hB;symm;refine⟨_,hT.told.get h5,?_⟩;cases a0:aF tb (aT p,n) with
   |none=>rw[q07 (by rfl)];exact Q1 a0 H3 sB
   |some u=>
   rw[q06 (by simp)];refine h1 _ _ ?_;clear h1;have c9:=a_.self hE.hp hE.r0 hE.c0;obtain⟨t,e7,hdep,hcnt⟩:=jL hE hB (aH p) p (Lb _) c9 n u a0;have ht60:t.dep<=60:=by omega
   have ht200:t.cnt<=200:=by omega
   have d3:=(e7.ly hE hB p n u rfl c9 a0).wf;have h8:=hG.up sB;symm;refine⟨Lc _,λl g5=>h1 _ _ ?_⟩;clear h1;generalize z0:aD H3 l _=H4;obtain⟨s4,e4⟩:=gP g5 z0;symm;refine⟨au b⁻¹,λt1 d5=>⟨au b⁻¹,λj a9=>h1 _ _ ?_⟩⟩;clear h1;have M:H4 j=none:=(aj d5).free a9;have k3:l≠j:=λe=>by rw[<- e,e4]at M;cases M
   generalize z1:aD H4 t1 _=H5 at a9 ⊢;obtain⟨s5,e5⟩:=gP d5 z1;generalize z2:aD H5 j _=H6;obtain⟨s6,e6⟩:=gP a9 z2;have b4:H3 j=none:=s4.free M;have d1:=s4.trans (s5.trans s6);refine am λN1 h1=>?_;refine zK λtb' k6=>?_;refine⟨λm σ S=>∃ns xs z1 z2 z3,GG rs p r c tb t H3 l j m S ns xs/\σ=[some (V.ref g),some (V.ref a),some v,some (V.ref tp),some (V.ref d),some (V.ref l),some (V.ref j),z1,z2,z3],⟨_,[],[⟨t1,tp,p,n,1,t⟩],_,_,_,⟨d1,k3,s6 _ _ (s5 _ _ e4),e6,λx hx=>?_,by simp[Em],rfl⟩,rfl⟩,?_⟩
   ·rw[KP.mp hx]
    exact⟨s6 _ _ e5,h5.up d1,c9,⟨u,a0⟩,e7,by show 1+t.dep<=61;omega⟩
   clear e6 e5 e4 a9 M d5 s4 s5 s6 d1 z0 z1 z2;rintro m σ S ⟨ns,xs,z1,z2,z3,W,rfl⟩;have g6:=W.len;have hxl:=o8 xs;have hG':=h8.up W.sm;ext;refine⟨Lc _,λl0 g9=>?_⟩;generalize z0:aD S l0 _=H8;obtain⟨s8,e8⟩:=gP g9 z0;have B:GG rs p r c tb t H3 l j m H8 ns xs:=⟨W.sm.trans s8,W.ne,s8 _ _ W.hn,s8 _ _ W.hw,λx hx=>(W.at_ x hx).up (dy.of s8),W.nn,W.m_⟩;clear W z0 g9 s8;refine uR B.hw e8 ⟨_,rfl,?_⟩;rcases List.eq_nil_or_concat xs with rfl | ⟨z,x,f8⟩
   ·rw[q06 (by simp)]
    refine h1 _ _ ?_;clear h1;ext;have d6:t.nn=ns:=by have:=B.nn;simpa[Em]using this
    have sF:=sB.trans B.sm;have c2:=fM t [] d3;have b8:=lN t [] d3 trivial;rw[Lm,d6]at c2 b8;refine⟨g,dx,l,sg,st,as,rs,ns,rfl,hG.up sF,B.hn,by rw[<- d6];exact d3.nn,b8,by rw[c2];rfl,by rw[<- d6,wP];omega,λd0 v0 H9 e0 f3 s9=>?_⟩;have ed:t.d=d0:=by rw[c2]at e0;exact(List.cons.inj e0).1
    rw[<- ed]at f3;exact Q2 t e7 u v0 H9 a0 f3 (sF.trans s9)
   ·rw[List.concat_eq_append]at f8
    subst f8;rw[q07 (by simp)];refine⟨λσ2 H2=>∃m',m'<m/\∃ns xs z1 z2 z3,GG rs p r c tb t H3 l j m' H2 ns xs/\σ2=[some (V.ref g),some (V.ref a),some v,some (V.ref tp),some (V.ref d),some (V.ref l),some (V.ref j),z1,z2,z3],λσ' S ⟨m',h1,ns,xs,z1,z2,z3,h2,h3⟩=>⟨m',h1,ns,xs,h2,z1,z2,z3,h3⟩,?_⟩;obtain⟨i3,i2,g0,⟨xv,f9⟩,i1,hxd⟩:=B.at_ x (by simp);have f7:((z++[x]).map λx=>V.ref x.a)[((z++[x]).map λx=>V.ref x.a).length-1]?=some (V.ref x.a):=by simp
    have f6:((z++[x]).map λx=>V.ref x.a).dropLast=z.map λx=>V.ref x.a:=by rw[K2];simp
    rw[k6];ac_nf;refine⟨.inl ⟨rfl,_,aQ.of B.hw⟩,_,B.hw,_,f7,h2 _ _ ?_⟩;clear h2;rw[f6];have n9:dy H8 (aD H8 j (.lst (z.map λx=>V.ref x.a))):=dy.put B.hw;have a5:az H3 (aD H8 j (.lst (z.map λx=>V.ref x.a))):=bE B.sm b4;have e3:aD H8 j (.lst (z.map λx=>V.ref x.a)) l=some (.lst (eY ns)):=by rw[ar B.ne];exact B.hn
    have d4:aD H8 j (.lst (z.map λx=>V.ref x.a)) j=some (.lst (z.map λx=>V.ref x.a)):=af;generalize aD H8 j (.lst (z.map λx=>V.ref x.a))=H9 at n9 a5 e3 d4 ⊢;have i0:∀y∈z,y.at rs p r c tb H9:=λy hy=>(B.at_ y (q0D _ hy)).up n9;have b1:=n9 _ _ i3;have g1:br H9 x.b (aT x.q,x.n):=n9 _ _ i2;ac_nf;refine⟨_,cR.of b1,_,rfl,g,dx,d,x.b,sg,st,as,rs,f4,p,x.q,r,c,tb,x.n,xv,rfl,h8.up a5,d7,hE,hT.up a5,hB,g1,g0,f9,λk w' b G j2 ⟨I,o,c1,g2⟩ a6=>h2 _ _ ?_⟩;clear h2;have hx1:=x.t.cnt1;have hx2:=x.t.dep1;rw[pH,vC]at g6;have k2:I≠l:=λe=>by rw[e,e3]at o;cases o
    have i4:I≠j:=λe=>by rw[e,d4]at o;cases o
    have L:=a6 _ _ e3;have g3:=a6 _ _ d4;ac_nf;refine⟨.inl ⟨rfl,_,aQ.of L⟩,_,cR.of c1,_,rfl,_,L,by rw[jC];exact bc ⋯,h2 _ _ ?_⟩;clear h2;have d2:dy G (aD G l (.lst (eY ns++[V.int (k:Int)]))):=dy.put L;have b0:az H3 (aD G l (.lst (eY ns++[V.int (k:Int)]))):=bE (a5.trans a6) g5;have a2:aD G l (.lst (eY ns++[V.int (k:Int)])) l=some (.lst (eY (ns++[k]))):=by rw[af];simp[eY]
    have b2:aD G l (.lst (eY ns++[V.int (k:Int)])) j=some (.lst (z.map λx=>V.ref x.a)):=by rw[ar (Ne.symm B.ne)];exact g3
    have f0:iO (aD G l (.lst (eY ns++[V.int (k:Int)]))) I w':=tR g2 L k2;generalize aD G l (.lst (eY ns++[V.int (k:Int)]))=H11 at d2 b0 a2 b2 f0 ⊢;have f5:=(dy.of a6).trans d2;have f1:=f5 _ _ b1;have h7:=d2 _ _ c1;ac_nf;refine⟨_,aQ.of a2,?_⟩;rw[jC,La,q06 (by simp;omega)];refine⟨_,cR.of f1,_,rfl,_,rfl,?_⟩;rw[q06 ⋯];refine h2 _ _ ?_;clear h2;obtain⟨ei,hpl,k1⟩:=i1.parts hE hB g0 f9 j2;ext;obtain⟨bs,h6,hA⟩:=f0;have hbl:=hA.1;refine⟨_,cR.of h7,_,rfl,_,rfl,_,aQ.of h6,?_⟩;refine vH (xs:=bs.map V.ref) (λi σ S=>(az H3 S/\S l=some (.lst (eY (ns++[k])))/\S I=some (.lst (bs.map V.ref))/\bp br S bs w'/\S x.a=some (.tup [.ref x.b,.int (x.d:Int)])/\∃T:List zH,S j=some (.lst ((z++T).map λx=>V.ref x.a))/\(∀y∈z++T,y.at rs p r c tb S)/\T.reverse.map (λe=>e.t)=x.t.ps.drop (x.t.ps.length-i))/\∃z3,σ=[some (V.ref g),some (V.ref a),some v,some (V.ref tp),some (V.ref d),some (V.ref l),some (V.ref j),some (V.ref x.a),some (V.ref b),z3])
     ⟨⟨b0,a2,h6,hA,f1,[],by rw[Lm];exact b2,by rw[Lm];exact λy hy=>(i0 y hy).up f5,by simp⟩,_,rfl⟩ (λi σ S _ h=>aQ.of h.1.2.2.1) ?_ ?_
    ·rintro i y σ e9 hi hy ⟨⟨U,a1,a3,a4,C,T,J,D,O⟩,h9,rfl⟩
     rw[KO]at hi hy;obtain⟨kb,h0⟩:∃kb,bs[bs.length-1-i]?=some kb:=⟨_,KL ⋯⟩;rw[KQ,h0]at hy;cases hy;obtain⟨ky,k4,h4⟩:=a4.get h0;obtain⟨s0,a8⟩:∃s0,x.t.ps[bs.length-1-i]?=some s0:=⟨_,KL ⋯⟩;obtain⟨k5,q',n',v',rfl,k0,i5⟩:=k1 _ _ _ k4 a8;have hlt0:=(b9.lt (KR a8)).1;have hel:T.length=i:=by
      have:=q0R List.length O;rw[KO,K7,Lr]at this;omega
     ext;refine⟨.inl ⟨rfl,_,aQ.of J⟩,_,cR.of C,_,rfl,_,rfl,au b⁻¹,λte j1=>?_⟩;generalize z4:aD e9 te _=H13;obtain⟨Y,(e13:H13 te=some (.tup [.ref kb,.int ((x.d:Int)+1)]))⟩:=gP j1 z4;have Z:=Y _ _ J;have a7:dy e9 (aD H13 j (.lst ((z++T).map (λx=>V.ref x.a)++[V.ref te]))):=(dy.of Y).trans (dy.put Z);have hyl:=o8 z;have hpl2:=x.t.plen;refine⟨_,Z,by rw[KO,La];exact bc ⋯,bE (U.trans Y) b4,by rw[ar B.ne];exact Y _ _ a1,by rw[ar i4];exact Y _ _ a3,a4.mono λb y _ _ h=>a7 _ _ h,a7 _ _ C,T++[⟨te,kb,q',n',x.d+1,s0⟩],by rw[af];simp,λy hy=>?_,?_⟩
     ·rw[<- Ln]at hy
      rcases K3.mp hy with hy | hy
      ·exact(D y hy).up a7
      ·rw[KP.mp hy]
       refine⟨(dy.put Z) _ _ e13,a7 _ _ h4,k0,⟨v',i5⟩,k5,?_⟩;show x.d+1+s0.dep<=61;omega
     ·rw[Ls,K2,O]
      have e1:x.t.ps.length-(i+1)=bs.length-1-i:=by omega
      have e2:x.t.ps.length-i=bs.length-1-i+1:=by omega
      have b6:bs.length-1-i<x.t.ps.length:=by omega
      rw[e1,e2,q0T b6];rw[KL b6]at a8;cases a8
      rfl
    ·rintro σ e9 ⟨⟨U,a1,a3,a4,C,T,J,D,O⟩,h9,rfl⟩
     rw[KO,show x.t.ps.length-bs.length=0 by omega,LK]at O;have b3:x.t.nn=k::Em T.reverse:=by
      rw[GU,ei,KZ,<- O,K4];unfold Em;rw[List.flatMap_def];rfl
     have hcx:=x.t.cnt_eq;have hce:io T=(x.t.ps.map b9.cnt).sum:=by
      rw[<- O];unfold io;rw[K4,List.map_reverse,List.sum_reverse];rfl
     refine⟨io (z++T),?_,ns++[k],z++T,⟨U,B.ne,a1,J,D,?_,rfl⟩,_,_,_,rfl⟩
     ·rw[B.m_,pH,pH,vC];omega
     ·rw[B.nn,Ls,Ls]
      unfold Em at b3 ⊢;rw[List.flatMap_append,List.flatMap_append];show ns++(([x].flatMap λx=>x.t.nn)++_)=_;rw[List.flatMap_singleton,b3];simp
  refine⟨a,p,rfl,ha,small,g,dx,sg,st,as,rs,v,rfl,hG,?_⟩;rcases hv with⟨rfl,rfl⟩ | ⟨rfl,hn⟩
  ·exact .inl ⟨rfl,b_ H (az.refl _)⟩
  ·have:tx n∈(bJ (tx st) rs).map (·.1):=by rw[d7];exact Lx.mpr ⟨n,hn,rfl⟩
   exact .inr ⟨tx n,_,rfl,tU this,b_⟩
abbrev kl:Stmt:=fY 71
inductive jr(K:W.Frag)(vs:List V)(H:Hp)(Q:VK)(_E:XK):Prop
 |mk (a:Addr) (p:aL) (r c t:Nat) (_:vs=[.ref a,.int (t:Int)]) (_:H a=some (.lst (ao p))) (_:rect p r c) (_:0<r) (_:0<c) (_:r<=64) (_:c<=64) (_:t<8) (_:∀l H',H l=none->H' l=some (.lst (ao (turned p t)))->az H H'->Q (.ref l) H')
theorem vb:aG ["_law_picture","_law_t","_law_found","_law_k"] ["_law_picture","_law_t"] (aq kl):=by walk_at "c"
theorem v_{f:Addr}(F:dG K "_law_turned" "_law_turned" kl f fd)(nb:NB mg):↑bj 1 f fd ["_law_picture","_law_t"] (jr K):=by
 have sc:=vb;walk_at "f"
 ·obtain⟨a,p,r,c,t,rfl,hS,hp,M,U,L,T,ht,q⟩:=h
  refine⟨_,(ae (aA (i:=2) sc.nd rfl (Or.inr rfl) (c5 cy rfl nb.list eU (ac (al 0) ad)))
   (ae (bL (aN (bC.m0 lK) (al 1) ai (aR _))
   (ag (aA (i:=2) sc.nd rfl (Or.inr rfl) (cH ["_law_row"] [] rfl (bY.of f⁻¹) f⁻¹ (bR (al 2))
    (λ_ _ _ _=>(ay (i:=0) (by show(["_law_row"]:List Str).Nodup;decide +kernel) rfl (Or.inl rfl))) (λ_ _ _ _=>cJ) (λ_ _ _ _=>(pQ rfl rfl nb.reversed (ac (al 0) ad))))))
   aW)
   (ae (bF PassesOwn.never rfl (cD rfl nb.range (ac (aw (bC.m1 bf) (al 1) ai) ad)) (q02 3 sc.nd)
   (ag (aA (i:=2) sc.nd rfl (Or.inr rfl) (cH ["_law_j"] [2] rfl (bY.of f⁻¹) f⁻¹ (cD rfl nb.range (ac (aE bw rfl nb.len ba (ac (aP aX (al 2) ai (λ_ _=>rfl)) ad)) ad))
    (λ_ _ _ _=>(ay (i:=0) (by show(["_law_j","_law_found"]:List Str).Nodup;decide +kernel) rfl (Or.inr rfl))) (λ_ _ _ _=>cJ) (λ_ _ _ _=>(@FB _ K _ _ _ _ _ _ _ rfl (ac (cH ["_law_row"] [0] rfl (bY.of f⁻¹) f⁻¹ (DE (K:=K) rfl rfl nb.reversed (ac (al 1) ad))
    (λ_ _ _ _=>(ay (i:=0) (by show(["_law_row","_law_j"]:List Str).Nodup;decide +kernel) rfl (Or.inl rfl))) (λ_ _ _ _=>cJ) (λ_ _ _ _=>(aP o9 (al 0) (al 1) (λ_ _=>rfl)))) ad) rfl rfl))))))
   (ag (aM (al 2)))))),?_⟩
  symm;refine⟨_,.inl (aQ.of hS),λl m=>h1 _ _ ?_⟩;clear h1;generalize z0:aD H l _=H1;obtain⟨s1,e1⟩:=gP m z0;refine am λN2 h2=>?_;have v:∀(B:Addr) (k:aL) (H2:Hp),H B=none->H2 B=some (.lst (ao k))->az H H2->rect k r c->turned p t=aS (t%4) k->N2 [some (V.ref a),some (V.int (t:Int)),some (V.ref B),none] H2:=by
   intro B k H2 u a3 a0 a1 et;refine h2 _ _ ?_;clear h2;refine am λN3 h3=>?_;ext;refine⟨⋯,⋯,?_⟩;have e4:((t:Int)%4).toNat=t%4:=by omega
   rw[e4];refine cL (lo:=0) (n:=t%4) (λi σ H3=>∃(z:Addr) (x:Option V),σ=[some (V.ref a),some (V.int (t:Int)),some (V.ref z),x]/\H z=none/\H3 z=some (.lst (ao (aS i k)))/\az H H3) ⟨B,_,rfl,u,a3,a0⟩ ?_ ?_
   ·rintro i σ H3 hi ⟨z,x,rfl,S,Z,o⟩
    have hq:=cK i a1 M U;obtain⟨r',c',D,g4,g5,g6⟩:∃r' c',rect (aS i k) r' c'/\0<r'/\r'<=64/\c'<=64:=by
     by_cases lU:i%2=0
     ·rw[q07 lU,q07 lU]at hq;exact⟨r,c,hq,M,L,T⟩
     ·rw[q06 lU,q06 lU]at hq;exact⟨c,r,hq,U,T,L⟩
    have O:aS (i+1) k=bd (aS i k):=(cv 1 i k).symm;generalize aS i k=pq at Z D O;obtain⟨a2,g⟩:=e_ D g4;ext;refine⟨_,aQ.of Z,_,bo (j:=0) (bz a2),_,rfl,by rw[ax];exact au ⋯,⋯,by rw[ax];omega,?_⟩;rw[ax,g,KZ];refine gc (n:=c') (f:=λj=>some (V.str (tx (tV pq j)))) (λσ=>∃x,σ=[x,some (V.ref z)]) ⟨_,rfl⟩ ⋯ ?_ ?_
    ·rintro j hj σ H4 M1 M0 ⟨y,rfl⟩ I k1 k0
     have Y:=I _ _ Z;ext;have hd:∀n,((pq.reverse.take n).map λr=>V.str ⟨#[r.getD j 0]⟩)=(((pq.reverse.take n).map λr=>r.getD j 0).map λc=>(⟨#[c]⟩:Str)).map V.str:=λn=>by rw[K4,K4];rfl
     refine⟨rfl,_,aQ.of Y,v5 (xs:=ao pq) (λn b σ G=>G=H4/\b=((pq.reverse.take n).map λr=>V.str ⟨#[r.getD j 0]⟩)/\n<=pq.length/\∃x,σ=[x,some (.int (j:Int))]) ⟨rfl,rfl,Lc _,none,by simp⟩ ?_ ?_ ?_ ?_ ?_⟩
     ·rintro n b σ G ⟨_,rfl,_⟩
      rw[KO,Lq,K7,D.1];exact bc ⋯
     ·rintro n b σ G ⟨_,_,h,_⟩
      rw[ak];exact h
     ·rintro n b σ G ⟨rfl,_⟩
      exact aQ.of Y
     ·rintro n x b σ G hx ⟨rfl,rfl,hn,y,rfl⟩
      have m:n<pq.reverse.length:=by
       have:=(KM.mp hx).1
       rwa [K7,ak,<- K7 (as:=pq)]at this
      have J:(ao pq.reverse)[n]?=some x:=by unfold ao at hx ⊢;rwa [List.map_reverse]
      rw[bz m]at J;cases J;have hm:pq.reverse[n]∈pq:=List.mem_reverse.mp (KY m);have hr:=D.2 _ hm;ext;have hc:(tx pq.reverse[n]).cps.toList[j]?=some (pq.reverse[n].getD j 0):=by rw[dh,q0A,KL ⋯];rfl
      refine⟨by rw[ax];exact au ⋯,_,bo hc,?_,by rw[K7]at m;exact m⟩;rw[q0E,KL m,K2]
      rfl
     ·rintro b σ G ⟨rfl,rfl,_⟩ l m
      rw[ak,<- K7 (as:=pq),Lp]at *;refine⟨(tV pq j).map λc=>(⟨#[c]⟩:Str),.inl (aQ.of ?_),?_,?_⟩
      ·rw[af];unfold tV;rw[K4,K4];rfl
      ·rw[K4]
       have e:((λy:Str=>y.length)∘λc=>(⟨#[c]⟩:Str))=λ_=>1:=by funext c;rfl
       have e0:(Str.ofString "").length=0:=rfl;have e2:(tV pq j).length=pq.length:=by unfold tV;rw[KO,K7]
       rw[e,List.map_const',List.sum_replicate_nat,KO,e0,e2,D.1];omega
      ·rw[jO]
       exact k1 _ _ _ rfl (I.trans (aj m)) ⟨_,rfl⟩
    ·intro H4 I l4 R
     rw[lQ];refine⟨o.free (I.free R),?_,o.trans (I.trans (aj R))⟩;rw[af,O];unfold bd ao;rw[aO D g4,K4];rfl
   ·rintro σ H3 ⟨z,x,rfl,S,Z,o⟩
    refine h3 _ _ ?_;ext;exact q z H3 S (by rw[et];exact Z) o
  ext;refine cw (λh3=>⟨⟨_,aQ.of e1⟩,?_⟩) (λh3=>v l p H1 m e1 s1 hp (by unfold turned;rw[q06 ⋯]));refine oI (as:=p) (emb:=λrow=>V.str (tx row)) (f:=λrow=>some (V.str (tx row.reverse))) (λσ=>∃x,σ=[x]) ⟨_,rfl⟩ (λH2 C=>aQ.of (C _ _ e1)) (by rw[hp.1];omega) ?_ ?_
  ·rintro j row g σ H2 M1 M0 ⟨y,rfl⟩ C k1 k0
   have hrl:=hp.2 row (KR g);ext;refine⟨by rw[ax];omega,by decide,?_⟩;rw[dh,jO];exact k1 _ _ _ rfl C ⟨_,rfl⟩
  ·intro H2 C B u
   rw[lQ];have em:p.map (λrow=>V.str (tx row.reverse))=ao (mirror p):=by unfold ao mirror;rw[K4];rfl
   rw[em];exact v B (mirror p) _ (s1.free (C.free u)) af (s1.trans (C.trans (aj u))) (bZ hp) (by unfold turned;rw[q07 ⋯])
def gq(k:Nat)(p q:aL):Option aL:=if k=1/\p.length=q.length then some (kK true p q) else if k=2/\(p.headD []).length=(q.headD []).length then some (kK false p q) else none
abbrev tO:Stmt:=fY 72
inductive k_(K:W.Frag)(vs:List V)(H:Hp)(Q:VK)(_E:XK):Prop
 |mk (a b:Addr) (p q:aL) (k r c r' c':Nat) (_:vs=[.int (k:Int),.ref a,.ref b]) (_:H a=some (.lst (ao p))) (_:H b=some (.lst (ao q))) (_:rect p r c) (_:rect q r' c') (_:0<r) (_:r<=6) (_:0<c) (_:c<=6) (_:0<r') (_:r'<=6) (_:0<c') (_:c'<=6) (_:k<4) (_:(gq k p q=none->∀H',az H H'->Q .non H')) (_:∀pq,gq k p q=some pq->∀l H',H l=none->H' l=some (.lst (ao pq))->az H H'->Q (.ref l) H')
theorem Bb:aG ["_law_kind","_law_one","_law_other"] ["_law_kind","_law_one","_law_other"] (aq tO):=by walk_at "c"
theorem CN{f:Addr}(F:dG K "_law_put" "_law_put" tO f fd)(nb:NB mg):↑bj 1 f fd ["_law_kind","_law_one","_law_other"] (k_ K):=by
 have sc:=Bb;walk_at "f"
 ·obtain⟨a,b,p,q,k,r,c,r',c',rfl,J,I,M,L,r0,r6,c0,c6,u,r6',c0',c6',k4,q0,q1⟩:=h
  refine⟨_,(ae (bL (PW.pt (gK (aN dz (al 0) ai (aR _)) (fB (aN dz (aE aZ rfl nb.len ba (ac (al 1) ad)) (aE aZ rfl nb.len ba (ac (al 2) ad)) (aR _)))))
   (ag (aM (cH ["_law_a","_law_b"] [] rfl (bY.of f⁻¹) f⁻¹ (ER rfl nb.zip (ac (al 1) (ac (al 2) ad)))
    (λ_ _ _ _=>(lF (K:=K) (n:=2) rfl rfl (aV (ay (i:=0) (by show(["_law_a","_law_b"]:List Str).Nodup;decide +kernel) rfl (Or.inl rfl)) (aV (ay (i:=1) (by show(["_law_a","_law_b"]:List Str).Nodup;decide +kernel) rfl (Or.inl rfl)) du)))) (λ_ _ _ _=>cJ) (λ_ _ _ _=>(aw fS (al 0) (al 1))))))
   aW)
   (ae (bL (PW.pt (gK (aN dz (al 0) ai (aR _)) (fB (aN dz (aE bw rfl nb.len ba (ac (aP aX (al 1) ai (λ_ _=>rfl)) ad)) (aE bw rfl nb.len ba (ac (aP aX (al 2) ai (λ_ _=>rfl)) ad)) (aR _)))))
   (ag (aM (aw wH (al 1) (al 2))))
   aW)
   (ag (aM cN)))),?_⟩
  symm;have hplen:p.length=r:=M.1;have hqlen:q.length=r':=L.1;have e1:=aO M r0;have e2:=aO L u;have tail:N1 [some (V.int (k:Int)),some (V.ref a),some (V.ref b)] H\/True:=.inr trivial;have b_:¬ (k=1/\p.length=q.length)->N1 [some (V.int (k:Int)),some (V.ref a),some (V.ref b)] H:=by
   intro hn;refine h1 _ _ ?_;clear h1;obtain⟨U,Z⟩:=e_ M r0;obtain⟨B,G⟩:=e_ L u;refine am λN1 h1=>?_;have no:¬ (k=2/\(p.headD []).length=(q.headD []).length)->N1 [some (V.int (k:Int)),some (V.ref a),some (V.ref b)] H:=by
    intro S;refine h1 _ _ ?_;ext;exact q0 (by unfold gq;rw[q06 hn,q06 S]) H (λ_ _ e=>e)
   ext;refine cw (λC=>?_) (λC=>no (λz=>C ⋯));refine⟨_,aQ.of J,_,(show i6 _ ((0:Nat):Int)=_ from bo (bz U)),_,rfl,by rw[ax];exact au ⋯,_,aQ.of I,_,(show i6 _ ((0:Nat):Int)=_ from bo (bz B)),_,rfl,by rw[ax];exact au ⋯,?_⟩;rw[ax,ax,Z,G];refine cw (λhc=>?_) (λhc=>no (λz=>hc (by rw[e1,e2]at z;omega)));refine⟨_,J,_,I,by rw[ak,ak];exact au ⋯,λl j=>?_⟩;exact q1 (kK false p q) (by unfold gq;rw[q06 hn,q07 ⟨⋯,by rw[e1,e2];omega⟩]) l _ j (by rw[af];unfold kK ao;rw[q06 b⁻¹,K2]) (aj j)
  refine cw (λC=>⟨_,aQ.of J,_,aQ.of I,?_⟩) (λC=>b_ (λz=>C ⋯));rw[ak,ak];refine cw (λj=>?_) (λj=>b_ (λz=>j ⋯));have R:p.length=q.length:=by omega
  refine⟨_,aQ.of J,_,aQ.of I,?_⟩;have v:(kK true p q).length=r:=by show((p.zip q).map _).length=_;rw[KO,q0N];omega
  refine B7 (xs:=ao p) (ys:=ao q) (n:=r) (by rw[ak,ak];omega) (λi g σ o=>az H o/\g=ao ((kK true p q).take i)/\i<=r/\∃y z,σ=[y,z]) ⟨λ_ _ e=>e,rfl,Lc _,_,_,rfl⟩ ?_ ?_ ?_ ?_ ?_
  ·rintro i g σ o ⟨_,rfl,Y,_⟩
   rw[ak,Lq];exact bc ⋯
  ·rintro i g σ o ⟨_,_,h,_⟩
   exact h
  ·rintro i g σ o ⟨m,_⟩
   exact⟨aQ.of (m _ _ J),aQ.of (m _ _ I)⟩
  ·rintro i x y g σ o T O hy ⟨m,rfl,_,y1,z1,rfl⟩ hT
   have Y:i<p.length:=by have:=(KM.mp O).1;rwa [ak]at this
   have D:i<q.length:=by omega
   rw[bz Y]at O;rw[bz D]at hy;cases O;cases hy;have hrow:=M.2 _ (KY Y);have hrow':=L.2 _ (KY D);ext;refine⟨_,cR.of af,rfl,_,_,rfl,_,_,rfl,rfl,?_⟩;have e:(kK true p q)[i]?=some (p[i]++q[i]):=by
    show((p.zip q).map λx=>x.1++x.2)[i]?=_;rw[KQ,KL (by rw[q0N];omega),List.getElem_zip];rfl
   refine⟨_,rfl,_,rfl,by rw[ax,ax];exact au ⋯,m.trans (aj hT),?_,⋯⟩;rw[pF,q0E,e];show ao _++_=ao (_++[p[i]++q[i]]);rw[cU]
  ·rintro g σ o ⟨m,rfl,_⟩ l j
   rw[<- v,Lp];exact q1 _ (by unfold gq;rw[q07 ⟨⋯,R⟩]) l _ (m.free j) af (m.trans (aj j))
theorem gQ{p:aL}(h:p≠[])(z:Int):∃nm,nm∈p/\i6 (ao p) (z%((ao p).length:Int))=some (V.str (tx nm)):=by
 have hl:0<p.length:=List.length_pos_iff.mpr h;obtain⟨j,b⟩:∃j:Nat,z%((ao p).length:Int)=(j:Int):=⟨_,(LH (LF _ (by rw[ak];omega))).symm⟩;have a:j<p.length:=by
  have:=LG z (show(0:Int)<((ao p).length:Int) by rw[ak];omega);rw[b,ak]at this;omega
 exact⟨p[j],KY _,by rw[b];exact bo (bz a)⟩
theorem pS{r:LO}(h:r≠[])(z:Int):∃g,g∈r/\i6 (ao (dq r)) (z%((ao (dq r)).length:Int))=some (V.str (tx [g])):=by
 obtain⟨nm,a,e⟩:=gQ (p:=dq r) (by unfold dq;simpa using h) z;obtain⟨g,b,rfl⟩:=Lx.mp a;exact⟨g,b,e⟩
theorem rT{H2 H3:Hp}{t:Addr}(h:c7 H l ts rs)(s:az H H2)(ht:H2 t=none)(hv:H3=aD H2 t (.tup (qi x))):az H H3/\H3 l=some (.lst (ts.map V.ref))/\c7 (aD H3 l (.lst (ts.map V.ref++[V.ref t]))) l (ts++[t]) (rs++[x]):=by
 subst hv;have a:=s.trans (aj (o:=.tup (qi x)) ht);have b:=h.up a;exact⟨a,b.1,c7.app b af⟩
abbrev mv:Stmt:=fY 74
inductive oW(vs:List V)(H:Hp)(Q:VK)(_E:XK):Prop
 |mk (lc ln ls:Addr) (cs:List Int) (p:aL) (r:LO) (_:vs=[.ref lc,.ref ln,.ref ls]) (_:H lc=some (.lst (cs.map V.int))) (_:H ln=some (.lst (ao p))) (_:H ls=some (.lst (ao (dq r)))) (_:p≠[]) (_:r≠[]) (_:cs.length<=100) (_:p.length<=8) (_:r.length<=8) (_:(∀n∈p,dN n=true)) (_:(∀c∈r,hU [c]=true)) (_:∀l ts rs H',H l=none->c7 H' l ts rs->rs.length=cs.length->(∀x∈rs,jo p r x)->az H H'->Q (.ref l) H')
theorem xI:aG ["_law_cells","_law_names_here","_law_signs_here","_law_rules","_law_cell_here","_law_name","_law_cost","_law_one"] ["_law_cells","_law_names_here","_law_signs_here"] (aq mv):=by walk_at "c"
theorem wU{f:Addr}(F:dG K "_law_noise" "_law_noise" mv f fd)(nb:NB mg):↑bj 1 f fd ["_law_cells","_law_names_here","_law_signs_here"] oW:=by
 have sc:=xI;walk_at "f"
 ·obtain⟨lc,ln,ls,cs,p,r,rfl,S,a3,a2,U,r0,c100,p8,r8,C,a0,q⟩:=h
  refine⟨_,(ae (q01 3 sc.nd (bI ad))
   (ae (bF PassesOwn.never rfl (bR (al 0)) (q02 4 sc.nd)
   (ae (q01 5 sc.nd (aP aX (al 1) (aw (bC.m1 bf) (aw (bC.m1 bg) (al 4) ai) (aE aZ rfl nb.len ba (ac (al 1) ad))) (λ_ _=>rfl)))
   (ae (q01 6 sc.nd (aw (bC.m0 bU) ai (aw (bC.m1 bf) (aw (bC.m1 bg) (al 4) ai) ai)))
   (ae (q01 7 sc.nd (aP aX (al 1) (aw (bC.m1 bf) (aw (bC.m1 bg) (al 4) ai) (aE aZ rfl nb.len ba (ac (al 1) ad))) (λ_ _=>rfl)))
   (ag (bL (aN dz (aw (bC.m1 bf) (al 4) ai) ai (aR _))
   (ag (bi (q03 (al 3) (ac (bD (bN (ac (al 5) (ac (al 6) (ac (aP aX (al 2) (aw (bC.m1 bf) (aw (bC.m1 bg) (al 4) ai) (aE aZ rfl nb.len ba (ac (al 2) ad))) (λ_ _=>rfl)) (fU ad)))))) ad))))
   (ag (bL (aN dz (aw (bC.m1 bf) (al 4) ai) ai (aR _))
   (ag (bi (q03 (al 3) (ac (bD (bN (ac (al 5) (ac (al 6) (ac (al 7) (ac (aw (bC.m1 bf) (aw (bC.m1 bg) (al 4) ai) ai) ad)))))) ad))))
   (ag (bi (q03 (al 3) (ac (bD (ac (aw (bC.m1 bf) (al 4) ai) (ac (al 5) (ac (al 6) (ac (al 7) (ac (aP aX (al 1) (aw (bC.m1 bf) (aw (bC.m1 bg) (al 4) ai) (aE aZ rfl nb.len ba (ac (al 1) ad))) (λ_ _=>rfl)) ad)))))) ad))))))))))))
   (ag (aM (al 3))))),?_⟩
  symm;refine⟨Lc _,λl hl=>h1 _ _ ?_⟩;clear h1;generalize z0:aD H l _=H1;obtain⟨s1,e1⟩:=gP hl z0;symm;have D:0<(ao p).length:=by rw[ak];exact List.length_pos_iff.mpr U
  have a1:0<(ao (dq r)).length:=by rw[ak];unfold dq;rw[KO];exact List.length_pos_iff.mpr r0
  refine⟨⟨_,aQ.of (s1 _ _ S)⟩,?_⟩;refine b5 (xs:=cs.map V.int) (λi σ o=>az H o/\i<=cs.length/\(∃I u,c7 o l I u/\u.length=i/\∀x∈u,jo p r x)/\∃x4 x5 Z Y,σ=[some (V.ref lc),some (V.ref ln),some (V.ref ls),some (V.ref l),x4,x5,Z,Y]) ⟨s1,Lc _,⟨[],[],⟨e1,rfl,λi t r e=>by simp at e⟩,rfl,λx J=>nomatch J⟩,_,_,_,_,rfl⟩ (λi σ o _ h=>aQ.of (h.1 _ _ S)) ?_ ?_
  ·rintro i x σ o J ⟨L,_,⟨I,u,T,n,B⟩,x4,x5,Z,Y,rfl⟩
   rw[KQ]at J;obtain⟨c,hc,rfl⟩:=Lf.mp J;have hi:=(KM.mp hc).1;have a:=L _ _ a3;have v:=L _ _ a2;obtain⟨nm,O,en⟩:=gQ U (c/4);obtain⟨on,M,eo⟩:=gQ U (c/144);obtain⟨n2,R,e2⟩:=gQ U (c/576);obtain⟨g,hg,eg⟩:=pS r0 (c/144);have G:1<=1+c/16%9/\1+c/16%9<=9:=by omega
   have hrl2:=T.2.1;have mk:∀(k:Nat) (t:Int),k<4->0<=t->t<=7->jo p r (k,⟨nm,1+c/16%9,on,n2,[g],t⟩):=λk t hk t0 t7=>by
    have gd:(⟨nm,1+c/16%9,on,n2,[g],t⟩:RV).good:=⟨C nm O,G.1,G.2,C on M,C n2 R,a0 g hg,t0,t7⟩;exact⟨⟨hk,gd,gd.small⟩,O,M,R,⟨g,hg,rfl⟩⟩
   symm;refine⟨_,aQ.of a,Int.ofNat_lt.mpr D,_,aQ.of a,_,en,h1 _ _ ?_⟩;grind;refine h1 _ _ ?_;grind;refine⟨_,aQ.of a,Int.ofNat_lt.mpr D,_,aQ.of a,_,eo,h1 _ _ ?_⟩;clear h1;generalize hcst:1+c/16%9=cs1 at G mk ⊢;have fin:∀x,jo p r x->∀b,qi x=b->∀m,o m=none->∃xs,aD o m (.tup b) l=some (.lst xs)/\xs.length<sizeLine/\az H (aD (aD o m (.tup b)) l (.lst (xs++[V.ref m])))/\i+1<=cs.length/\∃I u,c7 (aD (aD o m (.tup b)) l (.lst (xs++[V.ref m]))) l I u/\u.length=i+1/\∀x∈u,jo p r x:=λx J b ev m j=>by
    subst ev;obtain⟨sA,eA,rA⟩:=rT T (λ_ _ e=>e) j rfl;refine⟨_,eA,by rw[KO];exact bc ⋯,bE (L.trans sA) hl,hi,_,_,rA,by rw[La,n];rfl,λy hy=>?_⟩;rcases K3.mp hy with h | h
    ·exact B y h
    ·rw[KP.mp h];exact J
   have z:Hb K "list" (V.ref l) o:=.inl ⟨rfl,_,aQ.of T.1⟩;ext;refine cw (λh0=>?_) (λh0=>cw (λh3=>?_) (λh3=>?_))
   ·exact⟨z,_,aQ.of v,Int.ofNat_lt.mpr a1,_,aQ.of v,_,eg,au b⁻¹,λm j=>fin _ (mk 0 0 b⁻¹ b⁻¹ b⁻¹) _ rfl m j⟩
   ·exact⟨z,au b⁻¹,λm j=>fin _ (mk 3 (c/576%8) b⁻¹ ⋯ ⋯) _ rfl m j⟩
   ·refine⟨z,_,aQ.of a,Int.ofNat_lt.mpr D,_,aQ.of a,_,e2,au b⁻¹,λm j=>?_⟩
    rcases(by omega:c%4=1\/c%4=2) with h | h<;>rw[h]
    ·exact fin _ (mk 1 0 b⁻¹ b⁻¹ b⁻¹) _ rfl m j
    ·exact fin _ (mk 2 0 b⁻¹ b⁻¹ b⁻¹) _ rfl m j
  ·rintro σ o ⟨L,_,⟨I,u,T,n,B⟩,x4,x5,Z,Y,rfl⟩
   refine h1 _ _ ?_;ext;exact q l I u o hl T (by rw[n,KO]) B L
structure gJ(p:aL)(a b:Nat):Prop where
 rc:rect p a b
 a1:1<=a
 a6:a<=6
 b1:1<=b
 b6:b<=6
 ns:bV p
structure uK where
 a:Addr
 lp:Addr
 vt:V
 nm:List Nat
 p:aL
 c:Int
def uK.at(H:Hp)(z:uK):Prop:=H z.a=some (.tup [z.vt,.str (tx z.nm),.ref z.lp,.int z.c])/\H z.lp=some (.lst (ao z.p))
theorem uK.at.up{z:uK}(h:z.at H)(s:az H H'):z.at H':=⟨s _ _ h.1,s _ _ h.2⟩
theorem iH(h:gJ p a b):(∃hl:0<p.length,(p[0]).length=b)/\p.length=a:=⟨e_ h.rc (show 0<a from h.a1),h.rc.1⟩
abbrev kT:Stmt:=fY 76
inductive nh(K:W.Frag)(vs:List V)(H:Hp)(Q:VK)(_E:XK):Prop
 |mk (lt:Addr) (zs:List uK) (c:Int) (_:vs=[.ref lt,.int c]) (_:H lt=some (.lst (zs.map λz=>V.ref z.a))) (_:zs≠[]) (_:(∀z∈zs,z.at H/\∃a b,gJ z.p a b)) (_:∀z∈zs,Q (.ref z.a) H)
theorem vS:aG ["_law_trees","_law_cell_here","_law_best","_law_one"] ["_law_trees","_law_cell_here"] (aq kT):=by walk_at "c"
theorem vI{f:Addr}(F:dG K "_law_picked" "_law_picked" kT f fd)(nb:NB mg):↑bj 1 f fd ["_law_trees","_law_cell_here"] (nh K):=by
 have sc:=vS;walk_at "f"
 ·obtain⟨lt,g,c,rfl,m,L,D,q⟩:=h
  have k:0<g.length:=List.length_pos_iff.mpr L;refine⟨_,(ae (bL (aN dz (aw (bC.m1 bf) (al 1) ai) ai (aR _))
   (ag (aM (aP aX (al 0) (aw (bC.m1 bf) (aw (bC.m1 bg) (al 1) ai) (aE aZ rfl nb.len ba (ac (al 0) ad))) (λ_ _=>rfl))))
   aW)
   (ae (q01 2 sc.nd (aP aX (al 0) ai (λ_ _=>rfl)))
   (ae (bF PassesOwn.never rfl (bR (al 0)) (q02 3 sc.nd)
   (ag (bL (aN (bC.m0 EA) (aw (bC.m1 d8) (aE aZ rfl nb.len ba (ac (aP aU (al 3) ai (λ_ _=>rfl)) ad)) (aE bw rfl nb.len ba (ac (aP aX (aP aU (al 3) ai (λ_ _=>rfl)) ai (λ_ _=>rfl)) ad))) (aw (bC.m1 d8) (aE aZ rfl nb.len ba (ac (aP aU (al 2) ai (λ_ _=>rfl)) ad)) (aE bw rfl nb.len ba (ac (aP aX (aP aU (al 2) ai (λ_ _=>rfl)) ai (λ_ _=>rfl)) ad))) (aR _))
   (ag (q01 2 sc.nd (al 3)))
   aW)))
   (ag (aM (al 2)))))),?_⟩
  symm;refine cw (λU=>?_) (λU=>h1 _ _ ?_)
  ·refine⟨_,aQ.of m,by rw[KO];omega,_,aQ.of m,?_⟩
   rw[KO];obtain⟨j,T⟩:∃j:Nat,c/3%(g.length:Int)=(j:Int):=⟨_,(LH (LF _ ⋯)).symm⟩;have l:j<g.length:=by have:=LG (c/3) (show(0:Int)<(g.length:Int) by omega);omega
   rw[T];exact⟨_,bo (by rw[KQ,KL l];rfl),q _ (KY l)⟩
  ·grind
   refine⟨_,aQ.of m,_,(show i6 _ ((0:Nat):Int)=_ from bo (by rw[KQ,KL k];rfl)),h1 _ _ ?_⟩;grind;refine⟨⟨_,aQ.of m⟩,?_⟩;refine b5 (xs:=g.map λz=>V.ref z.a) (λi σ u=>u=H/\∃z∈g,∃x,σ=[some (V.ref lt),some (V.int c),some (V.ref z.a),x]) ⟨rfl,_,KY k,_,rfl⟩ (λi σ u _ h=>by rw[h.1];exact aQ.of m) ?_ ?_
   ·rintro i x σ u G ⟨rfl,z,b,y,rfl⟩
    rw[KQ]at G;obtain⟨r,v,rfl⟩:=Lf.mp G;have e:=KR v;obtain⟨⟨J,I⟩,a1,b1,C⟩:=D z b;obtain⟨⟨o,n⟩,a2,b2,B⟩:=D r e;obtain⟨⟨O,w1⟩,n1⟩:=iH C;obtain⟨⟨M,w2⟩,n2⟩:=iH B;have:=C.a6;have:=C.b6;have:=B.a6;have:=B.b6;have S:i6 (ao z.p) 0=some (V.str (tx z.p[0])):=(show i6 _ ((0:Nat):Int)=_ from bo (bz O));have R:i6 (ao r.p) 0=some (V.str (tx r.p[0])):=(show i6 _ ((0:Nat):Int)=_ from bo (bz M));ext;refine⟨_,cR.of o,_,rfl,_,rfl,_,aQ.of n,_,cR.of o,_,rfl,_,rfl,_,aQ.of n,_,R,_,rfl,by rw[ax];exact au ⋯,.inl ⟨⋯,by rw[ak];omega⟩,_,cR.of J,_,rfl,_,rfl,_,aQ.of I,_,cR.of J,_,rfl,_,rfl,_,aQ.of I,_,S,_,rfl,by rw[ax];exact au ⋯,.inl ⟨⋯,by rw[ak];omega⟩,?_⟩;refine cw (λ_=>?_) (λ_=>?_)
    ·exact⟨r,e,rfl⟩
    ·exact⟨z,b,rfl⟩
   ·rintro σ u ⟨rfl,z,b,x,rfl⟩
    refine h1 _ _ ?_;ext;exact q z b
theorem gJ.turn(h:gJ p a b)(t:Nat):∃a' b',gJ (turned p t) a' b':=by
 have:=h.a1;have:=h.a6;have:=h.b1;have:=h.b6
 exact⟨_,_,cC h.rc h.a1 h.b1 t,by split<;>omega,by split<;>omega,by split<;>omega,by split<;>omega,qS h.rc h.a1 h.b1 h.ns t⟩
theorem AS{H:Hp}{lp:Addr}{as:LR}(h:H lp=some (.lst (ao p)))(l0:0<p.length)(hl:H l=some (.lst (as.map V.ref))):lp≠l:=λe=>by
 rw[<- e,h]at hl;have e2:ao p=as.map V.ref:=by injection hl with hl;injection hl
 have b:=q0R (λl=>l[0]?) e2;rw[bz l0,KQ]at b;cases as with
 |nil=>cases b
 |cons a as=>cases b
theorem BX{pq:aL}(hp:gJ p a b)(hq:gJ q a' b')(e:gq k p q=some pq):∃r c,rect pq r c/\1<=r/\1<=c/\r<=12/\c<=12/\bV pq:=by
 have:=hp.a1;have:=hp.a6;have:=hp.b1;have:=hp.b6;have:=hq.a6;have:=hq.b6
 unfold gq at e;rw[hp.rc.1,hq.rc.1,aO hp.rc hp.a1,aO hq.rc hq.a1]at e
 split at e
 ·rename_i h
  cases e;obtain⟨_,rfl⟩:=h;refine⟨_,_,ng hp.rc hq.rc,⋯,⋯,⋯,⋯,λrow hrow h47=>?_⟩;obtain⟨⟨x,y⟩,hxy,rfl⟩:=Lx.mp (show row∈(p.zip q).map λx=>x.1++x.2 from hrow);obtain⟨hx,hy⟩:=List.of_mem_zip hxy;exact(K3.mp h47).elim (hp.ns x hx) (hq.ns y hy)
 ·split at e
  ·rename_i h
   cases e;obtain⟨_,rfl⟩:=h;exact⟨_,_,pP hp.rc hq.rc,⋯,⋯,⋯,⋯,λrow hrow=>(K3.mp (show row∈p++q from hrow)).elim (hp.ns row) (hq.ns row)⟩
  ·cases e
theorem rR{zs:List uK}(h:0<zs.length)(z:Int):∃y,y∈zs/\i6 (zs.map λz=>V.ref z.a) (z%((zs.map λz=>V.ref z.a).length:Int))=some (V.ref y.a):=by
 rw[KO];obtain⟨j,b⟩:∃j:Nat,z%(zs.length:Int)=(j:Int):=⟨_,(LH (LF _ ⋯)).symm⟩;have a:j<zs.length:=by have:=LG z (show(0:Int)<(zs.length:Int) by omega);omega
 exact⟨zs[j],KY _,by rw[b];exact bo (by rw[KQ,KL a];rfl)⟩
theorem yQ{x:Nat×RV}{j:Nat}(hx:x.1=1)(hq:rect q a b)(a1:1<=a)(j1:1<=j)(jb:j<b):[(aT (q.map (List.take j)),x.2.o1),(aT (q.map (List.drop j)),x.2.o2)]∈bQ x q:=by
 unfold bQ;rw[hx];refine Lx.mpr ⟨(aT (q.map (List.take j)),aT (q.map (List.drop j))),?_,rfl⟩;unfold bP;rw[aO hq a1];exact Lx.mpr ⟨j-1,List.mem_range.mpr ⋯,by rw[show j-1+1=j by omega];rfl⟩
theorem zD{x:Nat×RV}{j:Nat}(hx:x.1=2)(hq:rect q a b)(j1:1<=j)(ja:j<a):[(aT (q.take j),x.2.o1),(aT (q.drop j),x.2.o2)]∈bQ x q:=by
 unfold bQ;rw[hx];refine Lx.mpr ⟨(aT (q.take j),aT (q.drop j)),?_,rfl⟩;unfold bP;rw[hq.1];exact Lx.mpr ⟨j-1,List.mem_range.mpr ⋯,by rw[show j-1+1=j by omega];rfl⟩
theorem Dv.more{rs rs':Yaa}(hs:∀x∈rs,x∈rs'){k:Ky}{v:Int}(h:Dv rs k v):Dv rs' k v:=by
 induction h with
 |leaf hr ho hw=>exact .leaf (hs _ hr) ho hw
 |one hr ho hw _ ih=>exact .one (hs _ hr) ho hw ih
 |two hr ho hw _ _ i1 i2=>exact .two (hs _ hr) ho hw i1 i2
theorem gJ.ok(h:gJ p a b):we p:=⟨λe=>by have:=h.rc.1;have:=h.a1;rw[e]at *;simp at *;omega,h.ns⟩
theorem A2{x:Nat×RV}{pq:aL}{k:Nat}(hk:x.1=k)(hp:gJ p a b)(hq:gJ q a' b')(e:gq k p q=some pq):[(aT p,x.2.o1),(aT q,x.2.o2)]∈bQ x pq:=by
 have hb:=hp.b1;have ha:=hp.a1;have hb':=hq.b1;have ha':=hq.a1
 unfold gq at e;rw[hp.rc.1,hq.rc.1,aO hp.rc hp.a1,aO hq.rc hq.a1]at e
 split at e
 ·rename_i h
  cases e;obtain⟨rfl,rfl⟩:=h;have w:=yQ (j:=b) hk (ng hp.rc hq.rc) hp.a1 hp.b1 ⋯;have e1:(kK true p q).map (List.take b)=p:=by
   show((p.zip q).map λx=>x.1++x.2).map (List.take b)=p;rw[K4];exact(q0K (f:=List.take b∘λx:FX×FX=>x.1++x.2) (g:=Prod.fst) λy hy=>List.take_left' (hp.rc.2 _ (List.of_mem_zip hy).1)).trans (List.map_fst_zip (by rw[hp.rc.1,hq.rc.1];exact Lb _))
  have e2:(kK true p q).map (List.drop b)=q:=by
   show((p.zip q).map λx=>x.1++x.2).map (List.drop b)=q;rw[K4];exact(q0K (f:=List.drop b∘λx:FX×FX=>x.1++x.2) (g:=Prod.snd) λy hy=>List.drop_left' (hp.rc.2 _ (List.of_mem_zip hy).1)).trans (List.map_snd_zip (by rw[hp.rc.1,hq.rc.1];exact Lb _))
  rwa [e1,e2]at w
 ·split at e
  ·rename_i h
   cases e;obtain⟨rfl,rfl⟩:=h;have w:=zD (j:=a) hk (pP hp.rc hq.rc) hp.a1 ⋯
   rwa [show(kK false p q).take a=p from List.take_left' hp.rc.1,show(kK false p q).drop a=q from List.drop_left' hp.rc.1]at w
  ·cases e
theorem ua{as:LR}{z:uK}(h:z.at H)(hp:gJ z.p a b)(hl:H l=some (.lst (as.map V.ref))):z.at (aD H l o):=by
 refine⟨?_,?_⟩
 ·rw[ar (λe=>by rw[<- e,h.1]at hl;cases hl)];exact h.1
 ·rw[ar (AS h.2 (iH hp).1.1 hl)];exact h.2
theorem tu{H:Hp}{Q:VK}{neg:Bool}(ha:H a=some (.lst xs))(hb:H b=some (.lst []))(q:Q (.bl (xs.isEmpty != neg)) H):DB K neg (.ref a) (.ref b) H Q:=by
 cases xs with
 |nil=>
  refine .inl ⟨[],by unfold Dt.deps;omega,.inl ⟨?_,?_⟩,by simpa using q⟩
  ·unfold iP;exact⟨a,_,rfl,aQ.of ha,by unfold dB;rfl⟩
  ·unfold iP;exact⟨b,_,rfl,aQ.of hb,by unfold dB;rfl⟩
 |cons x xs=>exact .inr ⟨a,b,_,_,rfl,rfl,aQ.of ha,aQ.of hb,by simp,by simpa using q⟩
structure Aq(mo:Int)(H:Hp)(p:aL)(r:LO)(lr lt:Addr)(ts:LR)(rs:Yaa)(zs:List uK):Prop where
 ne:lr≠lt
 ra:c7 H lr ts rs
 ro:∀x∈rs,jo p r x
 ta:H lt=some (.lst (zs.map λz=>V.ref z.a))
 zt:∀z∈zs,z.at H/\z.nm∈p/\(Dv rs (aT z.p,z.nm) z.c/\(aH z.p:Int)<=mo)/\∃a b,gJ z.p a b
theorem Aq.up{mo:Int}{lr lt:Addr}(g:Aq mo H p r lr lt ts rs zs)(s:az H H'):Aq mo H' p r lr lt ts rs zs:=
 ⟨g.ne,g.ra.up s,g.ro,s _ _ g.ta,λz hz=>⟨(g.zt z hz).1.up s,(g.zt z hz).2⟩⟩
theorem Aq.row{mo:Int}{lr lt:Addr}{vals:List V}(g:Aq mo H p r lr lt ts rs zs)(ha:H a=none)(hx:jo p r x)(ev:qi x=vals) :
  aD H a (.tup vals) lr=some (.lst (ts.map V.ref))/\Aq mo (aD (aD H a (.tup vals)) lr (.lst (ts.map V.ref++[V.ref a]))) p r lr lt (ts++[a]) (rs++[x]) zs:=by
 subst ev;obtain⟨m,l,n⟩:=rT g.ra (λ_ _ e=>e) ha rfl;have k:=g.up m;refine⟨l,g.ne,n,λy q=>?_,?_,λz o=>?_⟩
 ·rcases K3.mp q with h | h
  ·exact g.ro y h
  ·rw[KP.mp h];exact hx
 ·rw[ar (Ne.symm g.ne)];exact k.ta
 ·obtain⟨h1,h2,c,a,b,j⟩:=k.zt z o
  exact⟨ua h1 j l,h2,⟨c.1.more λx hx=>q0D _ hx,c.2⟩,a,b,j⟩
theorem Aq.tree{mo:Int}{lr lt:Addr}{z:uK}(g:Aq mo H p r lr lt ts rs zs)(hz:z.at H)(hn:z.nm∈p)(hd:Dv rs (aT z.p,z.nm) z.c/\(aH z.p:Int)<=mo)(hp:gJ z.p a b) :
  Aq mo (aD H lt (.lst ((zs.map λz=>V.ref z.a)++[V.ref z.a]))) p r lr lt ts rs (zs++[z]):=by
 have ta:H lt=some (.lst ((zs.map uK.a).map V.ref)):=by rw[g.ta,K4];rfl
 refine⟨g.ne,?_,g.ro,by rw[af,K2];rfl,λy j=>?_⟩
 ·refine⟨by rw[ar g.ne];exact g.ra.1,g.ra.2.1,λi t x l k=>?_⟩
  have h:=g.ra.2.2 i t x l k;rw[ar (λe=>by rw[e,ta]at h;cases h)];exact h
 ·rcases K3.mp j with h | h
  ·obtain⟨h1,h2,hd,a,b,c⟩:=g.zt y h
   exact⟨ua h1 c ta,h2,hd,a,b,c⟩
  ·rw[KP.mp h];exact⟨ua hz hp ta,hn,hd,a,b,hp⟩
inductive Ho(H:Hp)(lc ln ls lr lt:Addr)(mo:Int)(p:aL)(r:LO)(i:Nat)(H':Hp):St->Prop
 |mk (ts:LR) (rs:Yaa) (zs:List uK) (x6 x7 x8 x9 x10 x11 x12 x13:Option V) (_:az H H') (_:Aq mo H' p r lr lt ts rs zs) (_:rs.length=i) (_:zs.length=i):Ho H lc ln ls lr lt mo p r i H' [some (V.ref lc),some (V.ref ln),some (V.ref ls),some (V.int mo),some (V.ref lr),some (V.ref lt),x6,x7,x8,x9,x10,x11,x12,x13]
theorem DV{t1 t2 u2:TS}{D:gO}{N:St->Hp->Prop}{G:Prop}(h1:∀σ H,vT c1 t1 (vT c2 t2 u2) D σ H->N σ H)(A B C:(St->Hp->Prop)->Prop)(hA:A (t1 D))(hB:B (t2 D))(hC:C (u2 D))(k:∀t1 t2 u2:TS,A (t1 D)->B (t2 D)->C (u2 D)->(∀σ H,vT c1 t1 (vT c2 t2 u2) D σ H->N σ H)->G):G:=k t1 t2 u2 hA hB hC h1
abbrev mY:Stmt:=fY 73
inductive pE(K:W.Frag)(vs:List V)(H:Hp)(Q:VK)(_E:XK):Prop
 |mk (lc ln ls:Addr) (cs:List Int) (p:aL) (r:LO) (mo:Int) (_:vs=[.ref lc,.ref ln,.ref ls,.int mo]) (_:H lc=some (.lst (cs.map V.int))) (_:H ln=some (.lst (ao p))) (_:H ls=some (.lst (ao (dq r)))) (_:p≠[]) (_:r≠[]) (_:cs.length<=100) (_:p.length<=8) (_:r.length<=8) (_:(∀n∈p,dN n=true)) (_:(∀c∈r,hU [c]=true)) (_:1<=mo) (_:∀tp lr lt ts rs zs H',H' tp=some (.tup [.ref lr,.ref lt])->Aq mo H' p r lr lt ts rs zs->rs.length=cs.length->zs.length=cs.length->az H H'->Q (.ref tp) H')
theorem xO:aG ["_law_cells","_law_names_here","_law_signs_here","_law_most","_law_rules","_law_trees","_law_cell_here","_law_kind","_law_name","_law_cost","_law_one","_law_picture","_law_other","_law_sign"] ["_law_cells","_law_names_here","_law_signs_here","_law_most"] (aq mY):=by walk_at "c"
theorem xJ{f:Addr}(F:dG K "_law_grown" "_law_grown" mY f fd)(nb:NB mg)(zxa:↑dF 1 "_law_put" ["_law_kind","_law_one","_law_other"] (k_ K))(zla:↑dF 1 "_law_turned" ["_law_picture","_law_t"] (jr K)):↑bj 2 f fd ["_law_cells","_law_names_here","_law_signs_here","_law_most"] (pE K):=by
 have sc:=xO;walk_at "f"
 ·obtain⟨lc,ln,ls,cs,p,r,mo,rfl,d7,f3,f1,p0,r0,c100,p8,r8,c2,d3,e6,q⟩:=h
  have hu:=hr.units;refine⟨_,(ae (q01 4 sc.nd (bI ad))
   (ae (q01 5 sc.nd (bI ad))
   (ae (bF PassesOwn.never rfl (bR (al 0)) (q02 6 sc.nd)
   (ae (q01 7 sc.nd (aw (bC.m1 bf) (al 6) ai))
   (ae (q01 8 sc.nd (aP aX (al 1) (aw (bC.m1 bf) (aw (bC.m1 bg) (al 6) ai) (aE aZ rfl nb.len ba (ac (al 1) ad))) (λ_ _=>rfl)))
   (ae (q01 9 sc.nd (aw (bC.m0 bU) ai (aw (bC.m1 bf) (aw (bC.m1 bg) (al 6) ai) ai)))
   (ae (q01 10 sc.nd cN)
   (ae (q01 11 sc.nd cN)
   (ae (bL (PW.pt (gK (aN (bC.m0 lK) (al 7) ai (aR _)) (fB (aN (p_ hu) (al 5) (bI ad) (aR _)))))
   (ae (q01 10 sc.nd (aP aX (al 5) (aw (bC.m1 bf) (aw (bC.m1 bg) (al 6) ai) (aE aZ rfl nb.len ba (ac (al 5) ad))) (λ_ _=>rfl)))
   (ae (q01 12 sc.nd (aP aX (al 5) (aw (bC.m1 bf) (aw (bC.m1 bg) (al 6) ai) (aE aZ rfl nb.len ba (ac (al 5) ad))) (λ_ _=>rfl)))
   (ag (q01 11 sc.nd (q00 zxa hr (ac (al 7) (ac (aP aU (al 10) ai (λ_ _=>rfl)) (ac (aP aU (al 12) ai (λ_ _=>rfl)) ad))))))))
   aW)
   (ag (bL (PW.pt (gK (aN dz (al 7) ai (aR _)) (fB (aN (p_ hu) (al 5) (bI ad) (aR _)))))
   (ae (bi (q03 (al 4) (ac (bD (bN (ac (al 8) (ac (al 9) (ac (aP aU (al 10) ai (λ_ _=>rfl)) (ac (aw (bC.m1 bf) (aw (bC.m1 bg) (al 6) ai) ai) ad)))))) ad)))
   (ag (bi (q03 (al 5) (ac (bD (ac (bD (ac (aw (bC.m0 kL) (aE aZ rfl nb.len ba (ac (al 4) ad)) ai) (ac (aP aU (al 10) ai (λ_ _=>rfl)) ad))) (ac (al 8) (ac (q00 zla hr (ac (aP aU (al 10) ai (λ_ _=>rfl)) (ac (aw (bC.m1 bf) (aw (bC.m1 bg) (al 6) ai) ai) ad))) (ac (aw (bC.m0 bU) (al 9) (aP aU (al 10) ai (λ_ _=>rfl))) ad))))) ad)))))
   (ag (bL (PW.pt (gK (aN r_ (al 11) cN (aR _)) (gK (aN (bC.m0 pZ) (aw (bC.m1 d8) (aE aZ rfl nb.len ba (ac (al 11) ad)) (aE bw rfl nb.len ba (ac (aP aX (al 11) ai (λ_ _=>rfl)) ad))) (al 3) (aR _)) (fB (aN (bC.m0 ot) (aE (zi rfl) rfl nb.max FG (ac (aE aZ rfl nb.len ba (ac (al 11) ad)) (ac (aE bw rfl nb.len ba (ac (aP aX (al 11) ai (λ_ _=>rfl)) ad)) ad))) ai (aR _))))))
   (ae (bi (q03 (al 4) (ac (bD (ac (al 7) (ac (al 8) (ac (al 9) (ac (aP aU (al 10) ai (λ_ _=>rfl)) (ac (aP aU (al 12) ai (λ_ _=>rfl)) ad)))))) ad)))
   (ag (bi (q03 (al 5) (ac (bD (ac (bD (ac (aw (bC.m0 kL) (aE aZ rfl nb.len ba (ac (al 4) ad)) ai) (ac (aP aU (al 10) ai (λ_ _=>rfl)) (ac (aP aU (al 12) ai (λ_ _=>rfl)) ad)))) (ac (al 8) (ac (al 11) (ac (aw (bC.m0 bU) (aw (bC.m0 bU) (al 9) (aP aU (al 10) ai (λ_ _=>rfl))) (aP aU (al 12) ai (λ_ _=>rfl))) ad))))) ad)))))
   (ae (q01 13 sc.nd (aP aX (al 2) (aw (bC.m1 bf) (aw (bC.m1 bg) (al 6) ai) (aE aZ rfl nb.len ba (ac (al 2) ad))) (λ_ _=>rfl)))
   (ae (bi (q03 (al 4) (ac (bD (bN (ac (al 8) (ac (al 9) (ac (al 13) (fU ad)))))) ad)))
   (ag (bi (q03 (al 5) (ac (bD (ac (bD (ac (aw (bC.m0 kL) (aE aZ rfl nb.len ba (ac (al 4) ad)) ai) ad)) (ac (al 8) (ac (bI (ac (al 13) ad)) (ac (al 9) ad))))) ad)))))))))))))))))
   (ag (aM (bD (ac (al 4) (ac (al 5) ad)))))))),?_⟩
  symm;refine⟨Lc _,λI b0=>h1 _ _ ?_⟩;clear h1;generalize z0:aD H I _=H1;obtain⟨s1,e1⟩:=gP b0 z0;symm;refine⟨Lc _,λlt a9=>h1 _ _ ?_⟩;clear h1;generalize j:aD H1 lt _=H2;obtain⟨s2,e2⟩:=gP a9 j;have d5:H lt=none:=s1.free a9;have e9:I≠lt:=λe=>by rw[<- e,e1]at a9;cases a9
  have e8:0<(ao p).length:=by rw[ak];exact List.length_pos_iff.mpr p0
  have e7:0<(ao (dq r)).length:=by rw[ak];unfold dq;rw[KO];exact List.length_pos_iff.mpr r0
  symm;refine⟨⟨_,aQ.of (s2 _ _ (s1 _ _ d7))⟩,?_⟩;refine b5 (xs:=cs.map V.int) (λi σ H'=>Ho H lc ln ls I lt mo p r i H' σ) (.mk [] [] [] _ _ _ _ _ _ _ _ (s1.trans s2) ⟨e9,⟨s2 _ _ e1,rfl,λi t r e=>by simp at e⟩,(λx hx=>nomatch hx),e2,(λx hx=>nomatch hx)⟩ rfl rfl) (λi σ H' _ h=>by cases h with | mk _ _ _ _ _ _ _ _ _ _ _ s=>exact aQ.of (s _ _ d7)) ?_ ?_
  ·rintro i x σ H' hx ⟨ts,rs,U,x6,x7,x8,x9,a3,a0,D,m,sm,g,R,a7⟩
   rw[KQ]at hx;obtain⟨c,hc,rfl⟩:=Lf.mp hx;have hi:=(KM.mp hc).1;have b8:=sm _ _ f3;have b4:=sm _ _ f1;obtain⟨nm,Y,en⟩:=gQ p0 (c/4);obtain⟨L,c1,eg⟩:=pS r0 (c/144);have c9:1<=1+c/16%9/\1+c/16%9<=9:=by omega
   symm;refine h1 _ _ ?_;grind;refine⟨_,aQ.of b8,Int.ofNat_lt.mpr e8,_,aQ.of b8,_,en,h1 _ _ ?_⟩;grind;refine h1 _ _ ?_;clear h1;generalize hcst:1+c/16%9=cs1 at c9 ⊢;symm;refine h1 _ _ ?_;grind;refine h1 _ _ ?_;clear h1;refine am λN1 h1=>?_;have mk:∀(k:Nat) (o1 o2:LO) (t:Int),k<4->o1∈p->o2∈p->0<=t->t<=7->jo p r (k,⟨nm,cs1,o1,o2,[L],t⟩):=λk o1 o2 t hk h1 h2 t0 t7=>by
    have gd:(⟨nm,cs1,o1,o2,[L],t⟩:RV).good:=⟨c2 nm Y,c9.1,c9.2,c2 o1 h1,c2 o2 h2,d3 L c1,t0,t7⟩;exact⟨⟨hk,gd,gd.small⟩,Y,h1,h2,⟨L,c1,rfl⟩⟩
   have hrl2:=g.ra.2.1;have fin:∀{H5 H8:Hp} {ts':LR} {rs':Yaa} {x6 x7 x8 x9 a3 a0 D m:Option V} (z:uK) {a b:Nat},Aq mo H5 p r I lt ts' rs' U->rs'.length=i+1->az H H5->az H5 H8->z.at H8->z.nm∈p->(Dv rs' (aT z.p,z.nm) z.c/\(aH z.p:Int)<=mo)->gJ z.p a b->∃x2,H8 lt=some (.lst x2)/\x2.length<sizeLine/\Ho H lc ln ls I lt mo p r (i+1) (aD H8 lt (.lst (x2++[V.ref z.a]))) [some (V.ref lc),some (V.ref ln),some (V.ref ls),some (V.int mo),some (V.ref I),some (V.ref lt),x6,x7,x8,x9,a3,a0,D,m]:=λz a b g5 e5 s5 s8 hz hn hd hp=>
    ⟨_,(g5.up s8).ta,by rw[KO];exact bc ⋯,.mk _ _ _ _ _ _ _ _ _ _ _ (bE (s5.trans s8) d5) ((g5.up s8).tree hz hn hd hp) e5 (by rw[La,a7];rfl)⟩
   refine DV h1 (λt=>∀{H4:Hp} {j:uK} {v D m:Option V},az H' H4->j∈U->t [some (V.ref lc),some (V.ref ln),some (V.ref ls),some (V.int mo),some (V.ref I),some (V.ref lt),some (V.int c),some (V.int (c%4)),some (V.str (tx nm)),some (V.int cs1),some (V.ref j.a),v,D,m] H4)
    (λt=>∀{C:Hp} {j y:uK} {lq:Addr} {M:aL} {a b k:Nat} {m:Option V},az H' C->(k=1\/k=2)->c%4=(k:Int)->j∈U->y∈U->C lq=some (.lst (ao M))->gJ M a b->gq k j.p y.p=some M->(aH M:Int)<=mo->t [some (V.ref lc),some (V.ref ln),some (V.ref ls),some (V.int mo),some (V.ref I),some (V.ref lt),some (V.int c),some (V.int (c%4)),some (V.str (tx nm)),some (V.int cs1),some (V.ref j.a),some (V.ref lq),some (V.ref y.a),m] C)
    (λt=>∀{C:Hp} {a3 a0 D m:Option V},az H' C->t [some (V.ref lc),some (V.ref ln),some (V.ref ls),some (V.int mo),some (V.ref I),some (V.ref lt),some (V.int c),some (V.int (c%4)),some (V.str (tx nm)),some (V.int cs1),a3,a0,D,m] C) ?_ ?_ ?_ ?_
   ·intro H4 j v D m s4 n
    have g4:=g.up s4;obtain⟨⟨u,b3⟩,a8,_,a1,b1,G⟩:=g4.zt j n;ac_nf;refine⟨.inl ⟨rfl,_,aQ.of g4.ra.1⟩,_,cR.of u,_,rfl,au b⁻¹,λp1 h1=>?_⟩;obtain⟨eA,S⟩:=g4.row (vals:=[V.int 3,V.str (tx nm),V.int cs1,V.str (tx j.nm),V.int (c/1296%8)]) h1 (mk 3 j.nm j.nm (c/1296%8) b⁻¹ a8 a8 ⋯ ⋯) rfl;refine⟨_,eA,by rw[KO];exact bc ⋯,h2 _ _ ?_⟩;clear h2;have sA:az H (aD (aD H4 p1 (.tup [V.int 3,V.str (tx nm),V.int cs1,V.str (tx j.nm),V.int (c/1296%8)])) I (.lst (ts.map V.ref++[V.ref p1]))):=bE ((sm.trans s4).trans (aj h1)) b0;generalize aD (aD H4 p1 _) I _=H5 at S sA ⊢;obtain⟨⟨u,b3⟩,_,⟨D1,L1⟩,_⟩:=S.zt j n;ext;refine⟨.inl ⟨rfl,_,aQ.of S.ta⟩,_,aQ.of S.ra.1,_,cR.of u,_,rfl,au b⁻¹,λp2 h2=>?_⟩;generalize y:aD H5 p2 _=H6;obtain⟨s6,_⟩:=gP h2 y;obtain⟨t8,e0⟩:∃t8:Nat,c/1296%8=(t8:Int):=⟨(c/1296%8).toNat,⋯⟩;refine⟨_,cR.of (s6 _ _ u),_,rfl,j.lp,j.p,a1,b1,t8,by rw[e0],s6 _ _ b3,G.rc,G.a1,G.b1,by have:=G.a6;omega,by have:=G.b6;omega,⋯,λlq H7 hlq h7 s7=>?_⟩;obtain⟨a2,b2,P2⟩:=G.turn t8;exact⟨_,cR.of (s7 _ _ (s6 _ _ u)),_,rfl,_,rfl,au b⁻¹,λp5 h5=>fin ⟨p5,lq,V.ref p2,nm,turned j.p t8,cs1+j.c⟩ S (by rw[La,R];rfl) sA ((s6.trans s7).trans (aj h5)) ⟨af,aj h5 _ _ h7⟩ Y ⟨Dv.one (r:=(3,⟨nm,cs1,j.nm,j.nm,[L],c/1296%8⟩)) (q0C _ (KP.mpr rfl)) P2.ok (by show _∈[[(aT (turned (turned j.p t8) (di (c/1296%8).toNat)),j.nm)]];rw[e0,KZ,jh G.rc G.a1 G.b1 ⋯];exact KP.mpr rfl) D1,by rw[dW G.rc G.a1 G.b1];exact L1⟩ P2⟩
   ·intro C j y lq M a b k m B hk ek n O hq PQ c6 f7
    have Z:=g.up B;obtain⟨l0,w0⟩:=e_ PQ.rc (show 0<a from PQ.a1);obtain⟨⟨u,_⟩,a8,_⟩:=Z.zt j n;obtain⟨⟨a5,_⟩,f0,_⟩:=Z.zt y O;ac_nf;refine⟨.inl ⟨rfl,_,aQ.of Z.ra.1⟩,_,cR.of u,_,rfl,_,cR.of a5,_,rfl,au b⁻¹,λp1 h1=>?_⟩;obtain⟨eA,S⟩:=Z.row (vals:=[V.int (c%4),V.str (tx nm),V.int cs1,V.str (tx j.nm),V.str (tx y.nm)]) h1 (mk k j.nm y.nm 0 ⋯ a8 f0 b⁻¹ b⁻¹) (by rw[ek];rcases hk with rfl | rfl<;>rfl);refine⟨_,eA,by rw[KO];exact bc ⋯,h2 _ _ ?_⟩;clear h2;have sA:az H (aD (aD C p1 (.tup [V.int (c%4),V.str (tx nm),V.int cs1,V.str (tx j.nm),V.str (tx y.nm)])) I (.lst (ts.map V.ref++[V.ref p1]))):=bE ((sm.trans B).trans (aj h1)) b0;have d4:aD (aD C p1 (.tup [V.int (c%4),V.str (tx nm),V.int cs1,V.str (tx j.nm),V.str (tx y.nm)])) I (.lst (ts.map V.ref++[V.ref p1])) lq=some (.lst (ao M)):=by
     rw[ar (AS (aj h1 _ _ hq) l0 eA)];exact aj h1 _ _ hq
    generalize aD (aD C p1 _) I _=H5 at S sA d4 ⊢;obtain⟨⟨u,_⟩,_,⟨D1,_⟩,_,_,G⟩:=S.zt j n;obtain⟨⟨a5,_⟩,_,⟨D2,_⟩,_,_,P2⟩:=S.zt y O;ext;refine⟨.inl ⟨rfl,_,aQ.of S.ta⟩,_,aQ.of S.ra.1,_,cR.of u,_,rfl,_,cR.of a5,_,rfl,au b⁻¹,λp2 h2=>?_⟩;generalize y2:aD H5 p2 _=H6;obtain⟨s6,_⟩:=gP h2 y2;exact⟨_,cR.of (s6 _ _ u),_,rfl,_,rfl,_,cR.of (s6 _ _ a5),_,rfl,_,rfl,au b⁻¹,λp5 h5=>fin ⟨p5,lq,V.ref p2,nm,M,cs1+j.c+y.c⟩ S (by rw[La,R];rfl) sA (s6.trans (aj h5)) ⟨af,aj h5 _ _ (s6 _ _ d4)⟩ Y ⟨Dv.two (r:=(k,⟨nm,cs1,j.nm,y.nm,[L],0⟩)) (q0C _ (KP.mpr rfl)) PQ.ok (A2 rfl G P2 c6) D1 D2,f7⟩ PQ⟩
   ·intro C a3 a0 D m B
    have Z:=g.up B;ac_nf;refine⟨_,aQ.of (B _ _ b4),Int.ofNat_lt.mpr e7,_,aQ.of (B _ _ b4),_,eg,h2 _ _ ?_⟩;walk_at "oc";refine⟨.inl ⟨rfl,_,aQ.of Z.ra.1⟩,au b⁻¹,λp1 h1=>?_⟩;obtain⟨eA,S⟩:=Z.row (vals:=[V.int 0,V.str (tx nm),V.int cs1,V.str (tx [L]),V.str (Str.ofString "")]) h1 (mk 0 nm nm 0 b⁻¹ Y Y b⁻¹ b⁻¹) rfl;refine⟨_,eA,by rw[KO];exact bc ⋯,h2 _ _ ?_⟩;clear h2;have sA:az H (aD (aD C p1 (.tup [V.int 0,V.str (tx nm),V.int cs1,V.str (tx [L]),V.str (Str.ofString "")])) I (.lst (ts.map V.ref++[V.ref p1]))):=bE ((sm.trans B).trans (aj h1)) b0;generalize aD (aD C p1 _) I _=H5 at S sA ⊢;ext;refine⟨.inl ⟨rfl,_,aQ.of S.ta⟩,_,aQ.of S.ra.1,au b⁻¹,λp2 h2=>⟨au b⁻¹,λp3 h3=>⟨au b⁻¹,λp4 h4=>?_⟩⟩⟩;have s8:=((aj h2).trans (aj (o:=.lst [V.str (tx [L])]) h3)).trans (aj (o:=.tup [V.ref p2,V.str (tx nm),V.ref p3,V.int cs1]) h4);have e4:L≠47:=λe=>q0Q (d3 L c1) (by rw[e];decide +kernel);have pc:gJ [[L]] 1 1:=⟨⟨rfl,λx hx=>by rw[KP.mp hx];rfl⟩,by decide,by decide,by decide,by decide,λx hx h=>by rw[KP.mp hx]at h;exact e4 (KP.mp h).symm⟩;exact fin ⟨p4,p3,V.ref p2,nm,[[L]],cs1⟩ S (by rw[La,R];rfl) sA s8 ⟨af,aj h4 _ _ af⟩ Y ⟨Dv.leaf (r:=(0,⟨nm,cs1,nm,nm,[L],0⟩)) (q0C _ (KP.mpr rfl)) pc.ok (by show[]∈(if aT [[L]]=[L] then[[]] else[]);rw[q07 (show aT [[L]]=[L] from rfl)];exact KP.mpr rfl),e6⟩ pc
   ·intro t1 t2 u2 bA bB T h1
    ext;have c0:∀{C:Hp},az H' C->(c%4=0\/U=[])->N1 [some (V.ref lc),some (V.ref ln),some (V.ref ls),some (V.int mo),some (V.ref I),some (V.ref lt),some (V.int c),some (V.int (c%4)),some (V.str (tx nm)),some (V.int cs1),some V.non,some V.non,D,m] C:=by
     intro C B hz;refine h1 _ _ ?_;clear h1;ext;refine cw (λh3=>⟨Lc _,λle J=>tu ((aj J) _ _ (g.up B).ta) af ⟨_,rfl,?_⟩⟩) (λh3=>?_)
     ·rw[q06 (by rw[hz.resolve_left ⋯];simp)]
      exact T (B.trans (aj J))
     ·exact T B
    have d0:∀{C:Hp} {j y:uK} {v:V} {k:Nat},az H' C->c%4=(k:Int)->k≠0->j∈U->y∈U->(v=.non\/∃lq M a b,v=.ref lq/\C lq=some (.lst (ao M))/\rect M a b/\1<=a/\1<=b/\a<=12/\b<=12/\bV M/\gq k j.p y.p=some M)->N1 [some (V.ref lc),some (V.ref ln),some (V.ref ls),some (V.int mo),some (V.ref I),some (V.ref lt),some (V.int c),some (V.int (c%4)),some (V.str (tx nm)),some (V.int cs1),some (V.ref j.a),some v,some (V.ref y.a),m] C:=by
     intro C j y v k B ek hk0 n O hv;refine h1 _ _ ?_;clear h1 c0;have a4:U≠[]:=λe=>by rw[e]at n;exact nomatch n
     ext;refine cw (λh3=>⟨Lc _,λle J=>tu ((aj J) _ _ (g.up B).ta) af ⟨_,rfl,?_⟩⟩) (λh3=>?_)
     ·rw[q07 (by cases U with | nil=>exact q0Q rfl a4 | cons _ _=>rfl)]
      exact bA (B.trans (aj J)) n
     ·rcases hv with rfl | ⟨lq,M,a,b,rfl,hq,rc,a1,b1,Ie,b12,ns,c6⟩
      ·rw[q06 (by simp)]
       exact T B
      rw[q07 (by nofun)];obtain⟨l0,w0⟩:=e_ rc (show 0<a from a1);have i0:i6 (ao M) 0=some (V.str (tx M[0])):=(show i6 _ ((0:Nat):Int)=_ from bo (bz l0));have zl:(tx M[0]).length<=sizeLine:=by rw[ax];exact au ⋯
      refine⟨_,rfl,_,aQ.of hq,_,rfl,_,aQ.of hq,_,i0,_,rfl,zl,.inl ⟨⋯,by rw[ak,rc.1];omega⟩,?_⟩;rw[ak,rc.1,ax,w0];refine cw (λh9=>⟨_,rfl,_,aQ.of hq,_,rfl,_,aQ.of hq,_,i0,_,rfl,zl,?_⟩) (λ_=>T B);rw[ak,rc.1,ax,w0];refine cw (λh7=>?_) (λ_=>T B);have ab:a<7/\b<7:=by split at h7<;>omega
      exact bB B ⋯ ek n O hq ⟨rc,a1,⋯,b1,⋯,ns⟩ c6 (by unfold aH;rw[rc.1,aO rc a1];push_cast;exact h9)
    refine cw (λk0=>⟨Lc _,λle J=>tu ((aj J) _ _ g.ta) af ⟨_,rfl,?_⟩⟩) (λk0=>c0 (az.refl _) (.inl ⋯))
    by_cases a4:U=[]
    ·rw[q06 (by rw[a4];simp)]
     exact c0 (aj J) (.inr a4)
    rw[q07 (by cases U with | nil=>exact q0Q rfl a4 | cons _ _=>rfl)];have B:=aj (o:=.lst []) J;generalize aD H' le _=C at B ⊢;have Z:=g.up B;have d1:0<U.length:=List.length_pos_iff.mpr a4;obtain⟨j,n,f5⟩:=rR d1 (c/144);obtain⟨y,O,f4⟩:=rR d1 (c/1296);obtain⟨⟨u,b3⟩,_,_,a1,b1,G⟩:=Z.zt j n;obtain⟨⟨a5,f6⟩,_,_,a2,b2,P2⟩:=Z.zt y O;obtain⟨k,hk,ek⟩:∃k:Nat,k<4/\c%4=(k:Int):=⟨(c%4).toNat,⋯,⋯⟩;have d6:(0:Int)<((U.map λz=>V.ref z.a).length:Int):=by rw[KO];omega
    refine⟨_,aQ.of Z.ta,d6,_,aQ.of Z.ta,_,f5,_,aQ.of Z.ta,d6,_,aQ.of Z.ta,_,f4,_,rfl,_,cR.of u,_,rfl,_,rfl,_,cR.of a5,_,rfl,j.lp,y.lp,j.p,y.p,k,a1,b1,a2,b2,by rw[ek],b3,f6,G.rc,P2.rc,G.a1,G.a6,G.b1,G.b6,P2.a1,P2.a6,P2.b1,P2.b6,hk,λ_ H4 s4=>d0 (B.trans s4) ek ⋯ n O (.inl rfl),λM e3 l H4 _ h4 s4=>d0 (B.trans s4) ek ⋯ n O (.inr ?_)⟩;obtain⟨a,b,rc,u1,u2,u3,u4,u5⟩:=BX G P2 e3;exact⟨l,M,a,b,rfl,h4,rc,u1,u2,u3,u4,u5,e3⟩
  ·rintro σ H' ⟨ts,rs,U,x6,x7,x8,x9,a3,a0,D,m,sm,g,R,a7⟩
   refine h1 _ _ ?_;ext;exact⟨au b⁻¹,λtp d2=>q tp I lt ts rs U _ af (g.up (aj d2)) (by rw[R,KO]) (by rw[a7,KO]) (sm.trans (aj d2))⟩
theorem wJ{row:LO}{n:Nat}(h:n<=row.length):Txt.slice (tx row) none (some (n:Int))=tx (row.take n):=by
 rw[gS,HT.sIx_nat,LI h];show tx ((row.drop 0).take (n-0))=_;rw[LK,Nat.sub_zero]
theorem tX{row:LO}{n:Nat}(h:n<=row.length):Txt.slice (tx row) (some (n:Int)) none=tx (row.drop n):=by
 rw[gS,HT.sIx_nat,LI h];show tx ((row.drop n).take (row.length-n))=_;rw[q0F (by rw[Lr];omega)]
abbrev i8:Stmt:=fY 78
inductive lg(K:W.Frag)(vs:List V)(H:Hp)(Q:VK)(_E:XK):Prop
 |mk (a ls:Addr) (c:Int) (p:aL) (r:LO) (x y:Nat) (_:vs=[.ref a,.int c,.ref ls]) (_:H a=some (.lst (ao p))) (_:H ls=some (.lst (ao (dq r)))) (_:gJ p x y) (_:r≠[]) (_:r.length<=8) (_:(∀c∈r,hU [c]=true)) (_:∀l H' q,H l=none->H' l=some (.lst (ao q))->gJ q x y->az H H'->Q (.ref l) H')
theorem ul:aG ["_law_picture","_law_cell_here","_law_signs_here","_law_found","_law_i","_law_at","_law_row","_law_sign"] ["_law_picture","_law_cell_here","_law_signs_here"] (aq i8):=by walk_at "c"
theorem uk{f:Addr}(F:dG K "_law_changed" "_law_changed" i8 f fd)(nb:NB mg):↑bj 1 f fd ["_law_picture","_law_cell_here","_law_signs_here"] (lg K):=by
 have sc:=ul;walk_at "f"
 ·obtain⟨a,ls,c,p,r,x,y,rfl,hp,B,b,r0,r8,G,q⟩:=h
  have hu:=hr.units;refine⟨_,(ae (q01 3 sc.nd (c5 cy rfl nb.list eU (ac (al 0) ad)))
   (ae (bL (aN dz (aw (bC.m1 bf) (al 1) ai) ai (aR _))
   (ae (q01 4 sc.nd (aw (bC.m1 bf) (aw (bC.m1 bg) (al 1) ai) (aE aZ rfl nb.len ba (ac (al 3) ad))))
   (ae (q01 5 sc.nd (aw (bC.m1 bf) (aw (bC.m1 bg) (al 1) ai) (aE bw rfl nb.len ba (ac (aP aX (al 3) ai (λ_ _=>rfl)) ad))))
   (ae (q01 6 sc.nd (aP aX (al 3) (al 4) (λ_ _=>rfl)))
   (ae (q01 7 sc.nd (aP aX (al 2) (aw (bC.m1 bf) (aw (bC.m1 bg) (al 1) ai) (aE aZ rfl nb.len ba (ac (al 2) ad))) (λ_ _=>rfl)))
   (ag (tD (aw fS (aw fS (eV oU (al 6) jF (eO (al 5))) (al 7)) (eV oU (al 6) (eO (aw (bC.m0 bU) (al 5) ai)) jF)) (FJ (al 3) (al 4) Bp)))))))
   aW)
   (ag (aM (al 3))))),?_⟩
  symm;refine⟨_,.inl (aQ.of hp),λl L=>h1 _ _ ?_⟩;clear h1;have n:=aj (o:=.lst (ao p)) L;have m:aD H l (.lst (ao p)) l=some (.lst (ao p)):=af;generalize aD H l (.lst (ao p))=H1 at n m ⊢;obtain⟨Z,u,R⟩:=pS r0 (c/144);have O:=b.rc.1;have:=b.a1;have:=b.a6;have:=b.b1;have:=b.b6
  obtain⟨⟨l1,w1⟩,n1⟩:=iH b;refine am λN1 h1=>?_;have fin:∀(C:aL) (H2:Hp) (Y U T S:Option V),gJ C x y->H2 l=some (.lst (ao C))->az H H2->N1 [some (V.ref a),some (V.int c),some (V.ref ls),some (V.ref l),Y,U,T,S] H2:=by
   intro C H2 Y U T S I J s2;refine h1 _ _ ?_;ext;exact q l H2 C L J I s2
  clear h1;ext;refine cw (λ_=>?_) (λ_=>fin p H1 _ _ _ _ b m n);have i0:i6 (ao p) 0=some (V.str (tx p[0])):=(show i6 _ ((0:Nat):Int)=_ from bo (bz l1));have lr1:(ao (dq r)).length=r.length:=by rw[ak];unfold dq;rw[KO]
  have rl:0<r.length:=List.length_pos_iff.mpr r0;refine⟨_,aQ.of m,by rw[ak];omega,_,aQ.of m,_,i0,_,rfl,by rw[ax];exact au ⋯,by rw[ax];omega,_,aQ.of m,?_⟩;rw[ak,ax,w1];obtain⟨i,hi⟩:∃i:Nat,c/4%(p.length:Int)=(i:Int):=⟨_,(LH (LF _ ⋯)).symm⟩;obtain⟨j,hj⟩:∃j:Nat,c/24%(y:Int)=(j:Int):=⟨_,(LH (LF _ ⋯)).symm⟩;have g:i<p.length:=by have:=LG (c/4) (show(0:Int)<(p.length:Int) by omega);omega
  have hjl:j<y:=by have:=LG (c/24) (show(0:Int)<(y:Int) by omega);omega
  rw[hi,hj];have hrow:=b.rc.2 _ (KY g);refine⟨_,bo (bz g),_,aQ.of (n _ _ B),⋯,_,aQ.of (n _ _ B),_,R,_,rfl,by rw[ax];exact au ⋯,_,rfl,?_⟩;rw[wJ ⋯];refine⟨by rw[ax,ax,Lq];exact au (by simp;omega),_,rfl,by rw[ax];exact au ⋯,?_⟩;rw[show((j:Int)+1)=((j+1:Nat):Int) by push_cast;rfl,tX ⋯,pF];refine⟨by rw[ax,ax,La,Lq,Lr];exact au (by simp;omega),_,m,?_⟩;have M:C_ (ao p).length (i:Int)=some i:=by unfold C_;rw[q07 ⋯,q07 (by rw[ak];omega),KZ]
  have D:∀z∈p[i].take j++[Z]++p[i].drop (j+1),z≠47:=λz hz e=>by
   subst e;have v:=b.ns _ (KY g);rcases K3.mp hz with hz | hz
   ·rcases K3.mp hz with hz | hz
    ·exact v (q0H hz)
    ·rw[<- KP.mp hz]at u
     exact q0Q (G 47 u) (by decide +kernel)
   ·exact v (q0I hz)
  refine⟨i,M,fin (p.set i (p[i].take j++[Z]++p[i].drop (j+1))) _ _ _ _ _ ⟨⟨by rw[LD];exact O,λz hz=>?_⟩,b.a1,b.a6,b.b1,b.b6,λz hz k=>?_⟩ (by rw[af,pF];unfold ao;rw[List.map_set]) (bE n L)⟩
  ·rcases List.mem_or_eq_of_mem_set hz with h | h
   ·exact b.rc.2 z h
   ·rw[h,La,La,Lq,Lr];simp;omega
  ·rcases List.mem_or_eq_of_mem_set hz with h | h
   ·exact b.ns z h k
   ·rw[h]at k;exact D 47 k rfl
theorem k9{α:Type}(x:α)(xs:List α):i6 (x::xs) 0=some x:=show i6 (x::xs) ((0:Nat):Int)=some x from bo rfl
theorem yW{kd:Nat}(hk:kd=1\/kd=2)(hq:rect q a b)(h1:rect q1 a1 b1)(x1:0<a1)(h2:rect q2 a2 b2)(x2:0<a2)(el:q1=kc (decide (kd=1)) q (if kd=1 then(q1.headD []).length else q1.length))(er:q2=gE (decide (kd=1)) q (if kd=1 then(q1.headD []).length else q1.length)):gq kd q1 q2=some q:=by
 have g:=aO h1 x1;have m:=aO h2 x2;rcases hk with rfl | rfl
 ·rw[q07 rfl,g]at el er
  have el:q1=q.map (List.take b1):=el;have er:q2=q.map (List.drop b1):=er;unfold gq;rw[q07 ⟨rfl,by rw[el,er,KO,KO]⟩,el,er];refine q0R some ?_;show((q.map (List.take b1)).zip (q.map (List.drop b1))).map (λx=>x.1++x.2)=q;rw[List.zip_map',K4];exact(q0K (λx _=>List.take_append_drop b1 x)).trans (List.map_id' q)
 ·rw[q06 b⁻¹]at el er
  obtain⟨n,l⟩:∃n,q1.length=n:=⟨_,rfl⟩;rw[l]at el er;have el:q1=q.take n:=el;have er:q2=q.drop n:=er;have e:0<q1.length:=by rw[h1.1];exact x1
  have c:0<q2.length:=by rw[h2.1];exact x2
  have k:b1=b:=(h1.2 _ (KY e)).symm.trans (hq.2 _ (by have:=KY e;generalize q1[0]=x at this;rw[el]at this;exact q0H this));have j:b2=b:=(h2.2 _ (KY c)).symm.trans (hq.2 _ (by have:=KY c;generalize q2[0]=x at this;rw[er]at this;exact q0I this));unfold gq;rw[q06 (λh=>q0Q h.1 b⁻¹),q07 ⟨rfl,by rw[g,m,k,j]⟩];show some (q1++q2)=some q;rw[el,er,List.take_append_drop]
abbrev oq:Stmt:=fY 77
inductive mL(n:Nat)(vs:List V)(H:Hp)(Q:VK)(_E:XK):Prop
 |mk (lr:Addr) (v:V) (t:b9) (ts:LR) (rs:Yaa) (nms:List (List Nat)) (p q:aL) (r c:Nat) (tb:Tb) (nm:LO) (u:Int) (_:vs=[.ref lr,v,.str (tx nm)]) (_:c7 H lr ts rs) (_:dt H t.d v) (_:fq rs nms p r c) (_:fZ rs nms p r c tb) (_:a_ p r c q) (_:aF tb (aT q,nm)=some u) (_:FT rs (aF tb) (aT q,nm) t) (_:t.dep<=n) (_:∀a l H',H' a=some (.tup [.ref l,.int u])->H' l=some (.lst (ao q))->az H H'->Q (.ref a) H')
theorem rJ:aG ["_law_rules","_law_tree","_law_name","_law_kind","_law_told","_law_cost","_law_one","_law_other","_law_first","_law_second"] ["_law_rules","_law_tree","_law_name"] (aq oq):=by walk_at "c"
theorem re{f:Addr}(F:dG K "_law_laid" "_law_laid" oq f fd)(nb:NB mg)(zqa:↑dF 1 "_law_whole" ["_law_x"] kC)(zla:↑dF 1 "_law_turned" ["_law_picture","_law_t"] (jr K))(zxa:↑dF 1 "_law_put" ["_law_kind","_law_one","_law_other"] (k_ K))(hm:mg "_law_laid"=some (.ref f))(hk:W.keepIn K (.ref f)=true)(hb:dO K fd ["_law_rules","_law_tree","_law_name"] []):∀n,n<=60->↑bj (n+2) f fd ["_law_rules","_law_tree","_law_name"] (mL n)
 |0,_=>by
  refine F.ok rJ (λvs H Q E h=>?_) (λcdv A outer s H vs Q E hr h=>?_)
  ·obtain⟨lr,v,t,ts,rs,nms,p,q,r,c,tb,nm,u,rfl,_⟩:=h;rfl
  ·obtain⟨lr,v,t,ts,rs,nms,p,q,r,c,tb,nm,u,rfl,_,_,_,_,_,_,_,hd,_⟩:=h
   have:=t.dep1;omega
 |n+1,hn=>by
  have sc:=rJ;have zNa:↑dF (n+2) "_law_laid" ["_law_rules","_law_tree","_law_name"] (mL n):=⟨f,fd,re F nb zqa zla zxa hm hk hb n ⋯,hm,hk,hb⟩;walk_at "f"
  ·obtain⟨lr,v,t,ts,rs,nms,p,q,r,c,tb,nm,u,rfl,hR,ht,hE,hB,hq,hu0,hf,hd,Q0⟩:=h
   have hu:=hr.units;refine⟨_,(ae (bL (PW.pt (kh (iF (g8 (aE c3 rfl nb.isinstance c4 (ac (al 1) (ac (t9 (v:=.ty "tuple") rfl nb.tuple Bh rfl) ad))) λ_=>rfl)) (kh (aN dz (aE rG rfl nb.len ba (ac (al 1) ad)) ai (aR _)) (iK (iF (g8 (aJ zqa (hr.mono ⋯) rfl aK (ac (aP aU (al 1) ai (λ_ _=>rfl)) ad)) λ_=>rfl))))))
   (ag (aM cN))
   aW)
   (ae (bL (PW.pt (kh (iF (AT (bC.m0 pZ) (bC.m0 ot) ai (aP aU (al 1) ai (λ_ _=>rfl)) (aE aZ rfl nb.len ba (ac (al 0) ad)))) (iK (aN yj (aP aU (aP aX (al 0) (aP aU (al 1) ai (λ_ _=>rfl)) (λ_ _=>rfl)) ai (λ_ _=>rfl)) (al 2) (aR _)))))
   (ag (aM cN))
   aW)
   (ae (tD (aP aX (al 0) (aP aU (al 1) ai (λ_ _=>rfl)) (λ_ _=>rfl)) (ik (n:=5) rfl (aV (q02 3 sc.nd) (aV (q02 4 sc.nd) (aV (q02 5 sc.nd) (aV (q02 6 sc.nd) (aV (q02 7 sc.nd) du)))))))
   (ae (bL (aN yj (aE rG rfl nb.len ba (ac (al 1) ad)) (aP aX (bI (bN (bN (bN (bN ad))))) (al 3) (λ_ _=>rfl)) (aR _))
   (ag (aM cN))
   aW)
   (ae (bL (aN dz (al 3) ai (aR _))
   (ag (aM (bD (ac (bI (ac (al 6) ad)) (ac (al 5) ad)))))
   aW)
   (ae (q01 8 sc.nd (aJ zNa (hr.mono ⋯) rfl aK (ac (al 0) (ac (aP aU (al 1) ai (λ_ _=>rfl)) (ac (al 6) ad)))))
   (ae (bL (aN jx (al 8) cN (aR _))
   (ag (aM cN))
   aW)
   (ae (bL (aN dz (al 3) ai (aR _))
   (ag (aM (bD (ac (aJ zla (hr.mono ⋯) rfl aK (ac (aP aU (al 8) ai (λ_ _=>rfl)) (ac (al 7) ad))) (ac (aw (bC.m0 bU) (al 5) (aP aU (al 8) ai (λ_ _=>rfl))) ad)))))
   aW)
   (ae (q01 9 sc.nd (aJ zNa (hr.mono ⋯) rfl aK (ac (al 0) (ac (aP aU (al 1) ai (λ_ _=>rfl)) (ac (al 7) ad)))))
   (ae (bL (PW.pt (kh (aN jx (al 9) cN (aR _)) (iK (aN jx (aJ zxa (hr.mono ⋯) rfl aK (ac (al 3) (ac (aP aU (al 8) ai (λ_ _=>rfl)) (ac (aP aU (al 9) ai (λ_ _=>rfl)) ad)))) cN (aR _)))))
   (ag (aM cN))
   aW)
   (ag (aM (bD (ac (aJ zxa (hr.mono ⋯) rfl aK (ac (al 3) (ac (aP aU (al 8) ai (λ_ _=>rfl)) (ac (aP aU (al 9) ai (λ_ _=>rfl)) ad)))) (ac (aw (bC.m0 bU) (aw (bC.m0 bU) (al 5) (aP aU (al 8) ai (λ_ _=>rfl))) (aP aU (al 9) ai (λ_ _=>rfl))) ad))))))))))))))),?_⟩
   have row:∀(k:Nat) (r:Nat×RV),rs[k]?=some r->∃tk,i6 (ts.map V.ref) (k:Int)=some (V.ref tk)/\H tk=some (.tup (qi r)):=λk r e=>by
    obtain⟨tk,htk⟩:∃tk,ts[k]?=some tk:=⟨_,KL (by have:=(KM.mp e).1;have:=hR.2.1;omega)⟩;exact⟨tk,bo (by rw[KQ,htk];rfl),hR.2.2 k tk r htk e⟩
   have hok:=b7 hE.hp hE.ns hq;obtain⟨m,w',hs,ei,hfs⟩:=hf.inv hok;obtain⟨a,vs,rfl,hta,htr⟩:=b9.val ht;have hvl:=htr.length;rw[ei]at hta;obtain⟨rr,hrr,hrn⟩:∃rr,rs[m]?=some rr/\rr.2.n=nm:=by
    obtain⟨x,h1,h2,_⟩:=pp hu0 hs;exact⟨x,h1,h2⟩
   obtain⟨tk,S,htk⟩:=row m _ hrr;have hml:=(KM.mp hrr).1;have d2:=dJ hE hB hq hu0 hs;have d5:rr.1<4:=(hE.gd _ (KR hrr)).k4;obtain⟨z3,z4,ew⟩:∃z3 z4,qi rr=[.int (rr.1:Int),.str (tx nm),.int rr.2.c,z3,z4]:=by
    obtain⟨k,v⟩:=rr;rcases eM d5 with e | e | e | e<;>(simp only at e hrn;subst e;subst hrn;exact⟨_,_,rfl⟩)
   have j:=htk;rw[ew]at j;symm;refine⟨_,jw.tup hta,true,vi K _,?_⟩;rw[q06 b⁻¹];refine⟨_,cR.of hta,?_⟩;rw[q06 (by rw[K1];omega)];refine⟨_,cR.of hta,_,k9 _ _,_,rfl,_,rfl,?_⟩;rw[q06 (by simp)];refine h1 _ _ ?_;grind;refine⟨_,cR.of hta,_,k9 _ _,_,rfl,?_⟩;rw[q07 ⋯];refine⟨_,aQ.of hR.1,_,rfl,?_⟩;rw[q06 (λh=>h (by rw[KO,hR.2.1];omega))];refine⟨_,cR.of hta,_,k9 _ _,_,_,rfl,aQ.of hR.1,_,S,_,rfl,_,cR.of j,V.str (tx nm),rfl,rfl,?_⟩;rw[q06 (λh=>h rfl)];refine h1 _ _ ?_;grind;refine⟨_,cR.of hta,_,k9 _ _,_,_,rfl,aQ.of hR.1,_,S,_,rfl,_,cR.of j,rfl,_,_,rfl,_,_,rfl,_,_,rfl,_,_,rfl,_,_,rfl,rfl,h1 _ _ ?_⟩;clear h1;have d0:i6 [V.int 1,V.int 3,V.int 3,V.int 2] (rr.1:Int)=some (V.int ((V.int (m:Int)::vs).length:Int)):=by
    rcases d2 with⟨b,rfl,J,_⟩ | ⟨b,u',rfl,J,_⟩ | ⟨kd,b,_,_,_,_,_,_,rfl,y,J,_⟩<;>rcases hfs with⟨C,rfl⟩ | ⟨_,_,C,rfl,_⟩ | ⟨_,_,_,_,C,rfl,_⟩<;>(try cases C)<;>(rw[hrr]at J;cases J;rw[K1,hvl])
    ·rfl
    ·rfl
    ·rcases y with rfl | rfl<;>rfl
   symm;refine⟨_,cR.of hta,au b⁻¹,λp4 c9=>?_⟩;generalize z0:aD H p4 _=H4;obtain⟨s4,e4⟩:=gP c9 z0;refine⟨_,aQ.of e4,_,d0,rfl,?_⟩;rw[q06 (λh=>h rfl)];refine h1 _ _ ?_;clear h1 d0 e4 z0 c9;have o:=s4 _ _ hta;have O:=htr.up (dy.of s4);have a4:=hR.up s4;symm;have I:=q0R (λl=>l[3]?) ew;have e5:=q0R (λl=>l[4]?) ew;rcases d2 with⟨b,rfl,J,en,eq,ev⟩ | ⟨b,u',rfl,J,en,e6,ev,hl',h8⟩ | ⟨kd,b,k1,k2,q1,q2,u1,u2,rfl,y,J,en,rfl,rfl,b6,b0,e0,d7,ev,_,_,el,er⟩<;>(rw[hrr]at J;cases J)
   ·have I:V.str (tx b.sg)=z3:=q0S I
    rw[q07 (show((((0,b):Nat×RV).fst:Nat):Int)=0 from rfl)];exact⟨au b⁻¹,λl hl=>⟨au b⁻¹,λa2 a0=>Q0 a2 l _ (by rw[af,ev]) (by rw[ar (λe=>by rw[e,af]at a0;cases a0),af,eq,<- I];rfl) ((s4.trans (aj hl)).trans (aj a0))⟩⟩
   ·have I:V.str (tx b.o1)=z3:=q0S I
    have e5:V.int b.t=z4:=q0S e5;rcases hfs with⟨C,_⟩ | ⟨k,M,C,rfl,Gs⟩ | ⟨_,_,_,_,C,_⟩<;>cases C
    rw[q06 (by simp)];refine h1 _ _ ?_;grind;obtain⟨L,ys,rfl,Y,_⟩:=(show bM H4 [M.d] vs from O).uncons;have d1:M.dep<=n:=by have:M.dep+1<=n+1:=hd;omega
    have c1:=hq.turned hE.hp (eu h8);refine⟨_,cR.of o,L,(show i6 (V.int _::L::ys) ((1:Nat):Int)=_ from bo rfl),lr,L,M,ts,rs,nms,p,_,r,c,tb,b.o1,u',by rw[<- I],a4,Y,hE,hB,c1,e6,Gs,d1,λa1 l1 H5 G a5 s5=>h1 _ _ ?_⟩;grind;refine h1 _ _ ?_;grind;rw[q07 (show((3:Nat):Int)=3 from rfl)];have t0:0<=b.t:=(hE.gd _ (KR hrr)).good.t0;obtain⟨b1,b2,g⟩:=i9 hE.hp hE.r6 hE.c6 c1;obtain⟨x8,x9,Z,a9,a8,_⟩:=hq.rect hE.hp;have:=g.r6;have:=g.c6;refine⟨_,cR.of G,_,k9 _ _,l1,_,b1,b2,b.t.toNat,by rw[<- e5,LH t0],a5,g.rc,g.r0,g.c0,⋯,⋯,h8,λl2 H6 hl2 D s6=>⟨_,cR.of (s6 _ _ G),_,rfl,_,rfl,au b⁻¹,λa3 z=>Q0 a3 l2 _ (by rw[af,ev]) (aj z _ _ ?_) (s4.trans (s5.trans (s6.trans (aj z))))⟩⟩;rw[bK Z a9 a8 (eu h8) h8,kW h8,eX]at D;exact D
   ·have I:V.str (tx b.o1)=z3:=by rcases y with rfl | rfl<;>exact q0S I
    have e5:V.str (tx b.o2)=z4:=by rcases y with rfl | rfl<;>exact q0S e5
    rcases hfs with⟨C,_⟩ | ⟨_,_,C,_⟩ | ⟨k1,k2,M,tc,C,rfl,Gs,e7⟩<;>cases C
    rw[q06 (by simp;omega)];refine h1 _ _ ?_;grind;obtain⟨L,ys,rfl,Y,b8⟩:=(show bM H4 [M.d,tc.d] vs from O).uncons;obtain⟨x2,a7,rfl,d6,_⟩:=b8.uncons;have d1:max M.dep tc.dep+1<=n+1:=hd;refine⟨_,cR.of o,L,(show i6 (V.int _::L::x2::a7) ((1:Nat):Int)=_ from bo rfl),lr,L,M,ts,rs,nms,p,_,r,c,tb,b.o1,u1,by rw[<- I],a4,Y,hE,hB,b6,e0,Gs,⋯,λa1 l1 H5 G a5 s5=>h1 _ _ ?_⟩;grind;refine h1 _ _ ?_;grind;rw[q06 ⋯];refine h1 _ _ ?_;grind;refine⟨_,cR.of (s5 _ _ o),x2,(show i6 (V.int _::L::x2::a7) ((2:Nat):Int)=_ from bo rfl),lr,x2,tc,ts,rs,nms,p,_,r,c,tb,b.o2,u2,by rw[<- e5],a4.up s5,d6.up (dy.of s5) _,hE,hB,b0,d7,e7,⋯,λa2 l2 H6 a6 D s6=>h1 _ _ ?_⟩;grind;obtain⟨b1,b2,g⟩:=i9 hE.hp hE.r6 hE.c6 b6;obtain⟨b3,b4,h7⟩:=i9 hE.hp hE.r6 hE.c6 b0;obtain⟨x8,x9,Z,a9,a8,_⟩:=hq.rect hE.hp;have R:=yW y Z g.rc g.r0 h7.rc h7.r0 el er;have B:=s6 _ _ G;have d4:=s6 _ _ a5;have put:∀{H7:Hp} {Q':VK},az H6 H7->(∀l3 H8,H8 l3=some (.lst (ao q))->az H7 H8->Q' (.ref l3) H8)->k_ K [V.int (kd:Int),V.ref l1,V.ref l2] H7 Q' E0:=fun{H7 Q'} T k=>⟨l1,l2,q1,q2,kd,b1,b2,b3,b4,rfl,T _ _ d4,T _ _ D,g.rc,h7.rc,g.r0,g.r6,g.c0,g.c6,h7.r0,h7.r6,h7.c0,h7.c6,⋯,λhn=>by(rw[R]at hn;cases hn),λpq c2 l3 H8 _ d3 s8=>by rw[R]at c2;cases c2;exact k l3 H8 d3 s8⟩;refine⟨_,cR.of B,_,k9 _ _,_,cR.of a6,_,k9 _ _,put (λ_ _ h=>h) λl3 H7 d3 T=>?_⟩;rw[q06 (by simp)];refine h1 _ _ ?_;clear h1;ext;refine⟨_,cR.of (T _ _ B),_,k9 _ _,_,cR.of (T _ _ a6),_,k9 _ _,put T λl4 H8 e8 s8=>?_⟩;have U:=T.trans s8;exact⟨_,cR.of (U _ _ B),_,rfl,_,rfl,_,cR.of (U _ _ a6),_,rfl,_,rfl,au b⁻¹,λa3 z=>Q0 a3 l4 _ (by rw[af,ev]) (aj z _ _ e8) (s4.trans (s5.trans (s6.trans (U.trans (aj z)))))⟩
theorem fZ.uniq{tb':Tb}(E:fq rs nms p r c)(h:fZ rs nms p r c tb)(h':fZ rs nms p r c tb')(hq:a_ p r c q)(n:LO):aF tb (aT q,n)=aF tb' (aT q,n):=by
 cases e:aF tb (aT q,n) with
 |some v=>
  obtain⟨v',k,b⟩:=h'.min E hq (h.key _ _ e).2.2.1;obtain⟨g,j,a⟩:=h.min E hq (h'.key _ _ b).2.2.1;rw[e]at a;cases a;rw[b,Int.le_antisymm j k]
 |none=>
  cases b:aF tb' (aT q,n) with
  |none=>rfl
  |some v=>
   obtain⟨g,_,a⟩:=h.min E hq (h'.key _ _ b).2.2.1;rw[e]at a;cases a
theorem D5{p:aL}{st:LO}{rs:Yaa}(hst:st∈p)(hr:∀r∈rs,jo p sg r):∃nms:List (List Nat),(bJ (tx st) rs).map (·.1)=nms.map tx/\(∀x∈rs,x.2.n∈nms)/\nms.length<=p.length/\∀n∈nms,n∈p:=by
 have w:∀z∈(bJ (tx st) rs).map (·.1),z∈p.map tx:=λz a=>by
  rcases(jg _ _ _).mp a with e | ⟨q,o,e⟩
  ·rw[e];exact List.mem_map_of_mem hst
  ·unfold F1 at o
   obtain⟨r,g,rfl⟩:=Lx.mp o;have R:=hr r g;rcases e with e | e
   ·rw[e];exact List.mem_map_of_mem R.n
   ·obtain⟨y,b,rfl⟩:=Lx.mp e
    refine List.mem_map_of_mem ?_;obtain⟨k,v⟩:=r;have C:y=v.o1\/y=v.o2:=by
     rcases eM R.good.k4 with rfl | rfl | rfl | rfl
     ·exact q0Q b List.not_mem_nil
     ·simpa[bT]using b
     ·simpa[bT]using b
     ·exact .inl (by simpa[bT]using b)
    rcases C with rfl | rfl
    ·exact R.o1
    ·exact R.o2
 have j:=(jS (tx st) _ rs rfl).nd;have l:∀x∈rs,tx x.2.n∈(bJ (tx st) rs).map (·.1):=λx c=>(jg _ _ _).mpr (.inr ⟨_,List.mem_map_of_mem c,.inl rfl⟩);have u:=ThM.nd_len j w;rw[KO (as:=p)]at u;generalize(bJ (tx st) rs).map (·.1)=ks at *;have B:∀z∈ks,tx z.cps.toList=z/\z.cps.toList∈p:=λz a=>by
  obtain⟨m,D,rfl⟩:=Lx.mp (w z a);rw[dh];exact⟨rfl,D⟩
 refine⟨ks.map λz=>z.cps.toList,?_,λx c=>Lx.mpr ⟨_,l x c,dh _⟩,by rw[KO];exact u,λn j=>?_⟩
 ·rw[K4]
  exact((q0K (λz a=>(B z a).1)).trans (List.map_id' ks)).symm
 ·obtain⟨z,a,rfl⟩:=Lx.mp j
  exact(B z a).2
theorem fZ.fn{tb':Tb}(E:fq rs nms p r c)(h:fZ rs nms p r c tb)(h':fZ rs nms p r c tb'):aF tb=aF tb':=by
 funext k
 cases e:aF tb k with
 |some v=>
  obtain⟨⟨q,a,b⟩,_⟩:=h.key _ _ e;have:=h.uniq E h' a k.2;rw[show(aT q,k.2)=k from Prod.ext b.symm rfl]at this;rw[<- e,this]
 |none=>
  cases g:aF tb' k with
  |none=>rfl
  |some v=>
   obtain⟨⟨q,a,b⟩,_⟩:=h'.key _ _ g;have:=h'.uniq E h a k.2;rw[show(aT q,k.2)=k from Prod.ext b.symm rfl,e,g]at this;cases this
theorem BQ{ts2:LR}{rs2:Yaa}(h1:c7 H l1 ts rs)(h2:c7 H l2 ts2 rs2)(hl:H l=some (.lst (ts.map V.ref++ts2.map V.ref))):c7 H l (ts++ts2) (rs++rs2):=by
 have e:=h1.2.1;refine⟨by rw[hl,K2],by rw[La,La,e,h2.2.1],λi t x b a=>?_⟩
 by_cases c:i<ts.length
 ·rw[K' c]at b
  rw[K' ⋯]at a;exact h1.2.2 i t x b a
 ·rw[K_ ⋯]at b
  rw[K_ ⋯,<- e]at a;exact h2.2.2 _ t x b a
theorem zN(h:gJ p a b):a_ p a b p:=by
 refine⟨0,0,a,b,0,h.a1,Lb _,h.b1,Lb _,⋯,?_⟩;unfold cut;rw[eX,LK,Nat.sub_zero,q0F (by rw[h.rc.1];exact Lb _),show p.map (λrow=>(row.drop 0).take b)=p from(q0K (λx c=>by rw[LK,q0F (by rw[h.rc.2 x c];exact Lb _)])).trans (List.map_id' p)]
theorem ya:∀(t:b9),Dt.deps (.int t.i::t.ps.map b9.d)<=t.dep
 | .n0 i=>by simp only[b9.i,b9.ps,List.map_nil,Dt.deps,Dt.dep,b9.dep];omega
 | .n1 i a=>by
  have h:=ya a;have e:a.d.dep=Dt.deps (.int a.i::a.ps.map b9.d)+1:=by rw[a.d_eq];rfl
  simp only[b9.i,b9.ps,Lh,List.map_nil,Dt.deps,Dt.dep,b9.dep];omega
 | .n2 i a b=>by
  have h:=ya a;have h2:=ya b;have e:a.d.dep=Dt.deps (.int a.i::a.ps.map b9.d)+1:=by rw[a.d_eq];rfl
  have e2:b.d.dep=Dt.deps (.int b.i::b.ps.map b9.d)+1:=by rw[b.d_eq];rfl
  simp only[b9.i,b9.ps,Lh,List.map_nil,Dt.deps,Dt.dep,b9.dep];omega
theorem DF{L N C:Nat}{mo:Int}(h:N<=L)(l1:1<=L)(l4:L<=4)(hm:mo=[6,6,5,4].getD (L-1) 0)(hc:(C:Int)<=mo):N*(4*C)<=60+N*3/\N*(9*C)<=200+N*8:=by
 have b:L=1\/L=2\/L=3\/L=4:=by omega
 have a:N=0\/N=1\/N=2\/N=3\/N=4:=by omega
 rcases b with rfl | rfl | rfl | rfl<;>simp at hm<;>rcases a with rfl | rfl | rfl | rfl | rfl<;>omega
abbrev rf:Stmt:=fY 79
inductive um(K:W.Frag)(vs:List V)(H:Hp)(Q:VK)(_E:XK):Prop
 |mk (a:Addr) (ns:List Int) (_:vs=[.ref a]) (_:aQ K H a (ns.map V.int)) (_:∀H',Q (.bl true) H')
theorem E4:aG ["_law_script","_law_signs_here","_law_names_here","_law_cells","_law_room","_law_rules","_law_trees","_law_more","_law_tree","_law_name","_law_whole_one","_law_most","_law_picture","_law_start","_law_grammar_here","_law_handed","_law_cost","_law_found","_law_drawn","_law_made"] ["_law_script"] (aq rf):=by walk_at "c"
theorem FM{f:Addr}(F:dG K "law" "law" rf f fd)(nb:NB mg)(zga:↑dF 1 "_law_cell" ["_law_script","_law_k"] (mK K))(zqa:↑dF 1 "_law_whole" ["_law_x"] kC)(zGb:↑dF 1 "_law_signs" ["_law_cell_here","_law_many"] pA)(zHb:↑dF 1 "_law_names" ["_law_cell_here","_law_many"] p7)(zIb:↑dF 2 "_law_grown" ["_law_cells","_law_names_here","_law_signs_here","_law_most"] (pE K))(zJb:↑dF 1 "_law_noise" ["_law_cells","_law_names_here","_law_signs_here"] oW)(zxb:↑dF 1 "_law_picked" ["_law_trees","_law_cell_here"] (nh K))(zmb:↑dF 1 "_law_changed" ["_law_picture","_law_cell_here","_law_signs_here"] (lg K))(znb:↑dF 6 "_law_grammar" ["_law_signs_here","_law_start","_law_rules"] (lG R CG))(yaN:↑Dj 11 "least_cost" ["grammar","picture","name"] (j3 K R CG) [.non])(yaQ:↑dF 11 "first_tree" ["grammar","picture","name"] (eG K R CG))(yay:↑Dj 11 "first_tree" ["grammar","picture","name"] (eG K R CG) [.non])(zNa:↑dF 62 "_law_laid" ["_law_rules","_law_tree","_law_name"] (mL 60)):↑bj 63 f fd ["_law_script"] (um K):=by
 have sc:=E4;walk_at "f"
 ·obtain⟨a,ns,rfl,hS,q⟩:=h
  have hu:=hr.units;have n5:=hr.units210;refine⟨_,(ae (q01 1 sc.nd (q00 zGb hr (ac (q00 zga hr (ac (al 0) (bN ad))) (ac (aw (bC.m0 bU) ai (aw (bC.m1 bf) (aw (bC.m1 bg) (q00 zga hr (ac (al 0) (bN ad))) ai) ai)) ad))))
   (ae (q01 2 sc.nd (q00 zHb hr (ac (q00 zga hr (ac (al 0) (bN ad))) (ac (aw (bC.m0 bU) ai (aw (bC.m1 bf) (aw (bC.m1 bg) (q00 zga hr (ac (al 0) (bN ad))) ai) ai)) ad))))
   (ae (iN (i:=3) ["_law_k"] [0] sc.nd rfl (Or.inl rfl) rfl  rfl (bY.of f⁻¹) f⁻¹ (cD rfl nb.range (ac (aw (bC.m0 bU) ai (aw (bC.m1 bf) (q00 zga hr (ac (al 0) (bN ad))) ai)) ad))
    (λ_ _ _ _=>(ay (i:=0) (by show(["_law_k","_law_script"]:List Str).Nodup;decide +kernel) rfl (Or.inl rfl))) (λ_ _ _ _=>cJ) (λ_ _ _ _=>(q00 zga hr (ac (al 1) (ac (aw (bC.m0 bU) ai (al 0)) ad)))))
   (ae (q01 4 sc.nd (aP aX (bI (bN (bN (bN (bN ad))))) (aw (bC.m0 kL) (aE aZ rfl nb.len ba (ac (al 2) ad)) ai) (λ_ _=>rfl)))
   (ae (tD (q00 zIb hr (ac (al 3) (ac (al 2) (ac (al 1) (ac (al 4) ad))))) (ik (n:=2) rfl (aV (q02 5 sc.nd) (aV (q02 6 sc.nd) du))))
   (ae (iN (i:=7) ["_law_k"] [0] sc.nd rfl (Or.inl rfl) rfl  rfl (bY.of f⁻¹) f⁻¹ (cD rfl nb.range (ac (aw (bC.m1 bf) (aw (bC.m1 bg) (q00 zga hr (ac (al 0) (bN ad))) ai) ai) ad))
    (λ_ _ _ _=>(ay (i:=0) (by show(["_law_k","_law_script"]:List Str).Nodup;decide +kernel) rfl (Or.inl rfl))) (λ_ _ _ _=>cJ) (λ_ _ _ _=>(q00 zga hr (ac (al 1) (ac (aw (bC.m0 bU) ai (al 0)) ad)))))
   (ae (q01 5 sc.nd (aw wH (al 5) (q00 zJb hr (ac (al 7) (ac (al 2) (ac (al 1) ad))))))
   (ae (tD (q00 zxb hr (ac (al 6) (ac (q00 zga hr (ac (al 0) (bN ad))) ad))) (ik (n:=4) rfl (aV (q02 8 sc.nd) (aV (q02 9 sc.nd) (aV (q02 10 sc.nd) (aV (q02 11 sc.nd) du))))))
   (ae (q01 12 sc.nd (q00 zmb hr (ac (al 10) (ac (q00 zga hr (ac (al 0) (bN ad))) (ac (al 1) ad)))))
   (ae (q01 13 sc.nd (al 9))
   (ae (bL (aN dz (aw (bC.m1 bf) (q00 zga hr (ac (al 0) (bN ad))) ai) ai (aR _))
   (ag (q01 13 sc.nd (aP aX (al 2) (aw (bC.m1 bf) (aw (bC.m1 bg) (q00 zga hr (ac (al 0) (bN ad))) ai) (aE aZ rfl nb.len ba (ac (al 2) ad))) (λ_ _=>rfl))))
   aW)
   (ae (q01 14 sc.nd (q00 znb hr (ac (al 1) (ac (al 13) (ac (al 5) ad)))))
   (ae (q01 15 sc.nd (c5 cy rfl nb.list eU (ac (al 12) ad)))
   (ae (q01 16 sc.nd (yf yaN (hr.mono b⁻¹) rfl aK (ac (al 14) (ac (al 15) ad))))
   (ae (q01 17 sc.nd (yf yay (hr.mono b⁻¹) rfl aK (ac (al 14) (ac (al 15) ad))))
   (ae (bL (PW.pt (kh (aN (p_ hu) (al 15) (al 12) (aR _)) (iK (aN (Fc n5) (q00 yaQ hr (ac (al 14) (ac (al 15) (ac (al 13) ad)))) (al 17) (aR _)))))
   (ag (aM nj))
   aW)
   (ae (q01 18 sc.nd (jc (gm (EJ hu) (al 12) (al 10) (aR _)) (mR (gm dz (al 13) (al 9) (aR _)))))
   (ae (bL (PW.pt (kh (aN jx (al 16) cN (aR _)) (iK (aN jx (al 17) cN (aR _)))))
   (ag (aM (jc (gm jx (al 16) cN (aR _)) (jc (gm jx (al 17) cN (aR _)) (mR (Bz (al 18)))))))
   aW)
   (ae (bL (PW.pt (gK (g8 (al 18) λ_=>rfl) (fB (aN (bC.m0 lK) (al 16) (al 11) (aR _)))))
   (ag (aM nj))
   aW)
   (ae (bL (iF (g8 (q00 zqa hr (ac (al 16) ad)) λ_=>rfl))
   (ag (aM nj))
   aW)
   (ae (q01 19 sc.nd (q00 zNa hr (ac (al 5) (ac (al 17) (ac (al 13) ad)))))
   (ag (aM (jc (gm r_ (al 19) cN (aR _)) (mR (gm (EO hu) (al 19) (bD (ac (al 12) (ac (al 16) ad))) (aR _))))))))))))))))))))))))))),?_⟩
  obtain⟨m0,o3⟩:∃m:Nat,dD ns 0/156%4=(m:Int):=⟨_,(LH ⋯).symm⟩;obtain⟨m1,o2⟩:∃m:Nat,dD ns 1/3744%4=(m:Int):=⟨_,(LH ⋯).symm⟩;symm;refine⟨a,ns,0,rfl,hS,⋯,a,ns,0,rfl,hS,⋯,_,rfl,dD ns 0,m0,by rw[o3],⋯,λls r H1 hls q0 so i3 s1=>h1 _ _ ?_⟩;clear h1;have k2:=s1.seq hS;symm;refine⟨a,ns,1,rfl,k2,⋯,a,ns,1,rfl,k2,⋯,_,rfl,dD ns 1,m1,by rw[o2],⋯,λln p H2 hln g2 c1 c0 s2=>h1 _ _ ?_⟩;clear h1;have sA:=s1.trans s2;have d4:=s2 _ _ q0;have p3:=sA.seq hS;have p0:p≠[]:=λe=>by rw[e]at c1;simp at c1;omega
  have r0:r≠[]:=λe=>by rw[e]at i3;simp at i3;omega
  symm;have G:∀{H0:Hp} {k0 m:Nat} {N:List V->Hp->Prop},az H H0->k0+m<=900->(∀H3,az H0 H3->N (((List.range m).map λi=>dD ns (k0+i)).map V.int) H3)->gl (zq 0 m) (j_ 0) yJ (kZ (mK K) [] E0 (ke (F5 1) (ke (ET (Cl λi j=>V.int (i+j)) (tC (V.int k0)) (F5 0)) oN))) [none,some (V.ref a)] H0 N:=by
   intro H0 k0 m N s0 hk hN;refine gc (n:=m) (f:=λi=>some (V.int (dD ns (k0+i)))) (λσ=>∃x,σ=[x,some (V.ref a)]) ⟨_,rfl⟩ ⋯ ?_ ?_
   ·rintro j hj σ H3 M1 M0 ⟨y,rfl⟩ s3 k1 k0'
    ext;exact⟨a,ns,k0+j,by push_cast;rfl,(s0.trans s3).seq hS,⋯,k1 _ _ _ rfl s3 ⟨_,rfl⟩⟩
   ·intro H3 s3
    rw[lQ,K4]at *;exact hN H3 s3
  obtain⟨m2,o1⟩:∃m:Nat,dD ns 2%8=(m:Int):=⟨_,(LH ⋯).symm⟩;refine⟨a,ns,2,rfl,p3,⋯,_,rfl,⋯,⋯,?_⟩;rw[o1,show(1+(m2:Int)).toNat=1+m2 by omega];refine G (k0:=6) sA ⋯ λH3 s3 l3 o6=>h1 _ _ ?_;clear h1;generalize M:aD H3 l3 _=H4;obtain⟨s4,e4⟩:=gP o6 M;have sB:=sA.trans (s3.trans s4);have n0:=s3.trans s4;symm;refine⟨au b⁻¹,λl0 o7=>?_⟩;generalize M:aD H4 l0 _=H4b;obtain⟨e3,q3⟩:=gP o7 M;have I:=n0.trans e3;obtain⟨mo,p8,n8,n2⟩:∃mo:Int,i6 [V.int 6,V.int 6,V.int 5,V.int 4] ((p.length:Int)-1)=some (V.int mo)/\mo=[6,6,5,4].getD (p.length-1) 0/\1<=mo:=by
   have L4:p.length=1\/p.length=2\/p.length=3\/p.length=4:=by omega
   rcases L4 with e | e | e | e<;>rw[e]<;>exact⟨_,rfl,rfl,by decide⟩
  refine⟨_,aQ.of (I _ _ g2),_,aQ.of q3,_,by rw[ak];exact p8,h1 _ _ ?_⟩;grind;have p2:((List.range (1+m2)).map λi=>dD ns (6+i)).length=1+m2:=by rw[KO,q0J]
  refine⟨l3,ln,ls,_,p,r,mo,rfl,e3 _ _ e4,I _ _ g2,I _ _ d4,p0,r0,⋯,⋯,⋯,c0,so.one,n2,λtp lr lt ts rs zs H5 i0 g i2 S s5=>?_⟩;refine⟨_,rfl,_,cR.of i0,rfl,_,_,rfl,_,_,rfl,rfl,h1 _ _ ?_⟩;clear h1;rw[p2]at i2 S;have sC:=sB.trans (e3.trans s5);have e5:=I.trans s5;have a4:=e5 _ _ d4;have a5:=e5 _ _ g2;have j2:=sC.seq hS;obtain⟨m3,n9⟩:∃m:Nat,dD ns 2/8%5=(m:Int):=⟨_,(LH ⋯).symm⟩;symm;refine⟨a,ns,2,rfl,j2,⋯,_,rfl,⋯,⋯,?_⟩;rw[n9,KZ];refine G (k0:=14) sC ⋯ λH6 s6 l6 o5=>h1 _ _ ?_;clear h1 G;generalize M:aD H6 l6 _=H7;obtain⟨s7,e7⟩:=gP o5 M;have j1:((List.range m3).map λi=>dD ns (14+i)).length=m3:=by rw[KO,q0J]
  generalize(List.range m3).map (λi=>dD ns (14+i))=cs2 at e7 j1;have b0:=s6.trans s7;symm;refine⟨l6,ln,ls,cs2,p,r,rfl,e7,b0 _ _ a5,b0 _ _ a4,p0,r0,⋯,⋯,⋯,c0,so.one,λl8 m4 b4 H8 hl8 d0 hrl8 d3 s8=>?_⟩;have e0:=b0.trans s8;have c6:=g.ra.up e0;have hl1:=c6.2.1;have hl2:=d0.2.1;refine⟨_,rfl,_,c6.1,_,d0.1,by rw[KO,KO];exact au ⋯,λl9 f6=>h1 _ _ ?_⟩;clear h1;generalize M:aD H8 l9 _=H9;obtain⟨s9,e9⟩:=gP f6 M;have c9:=BQ (c6.up s9) (d0.up s9) e9;have J:∀x∈rs++b4,jo p r x:=λx hx=>(K3.mp hx).elim (g.ro x) (d3 x);have f6:(rs++b4).length<=12:=by rw[La];omega
  have T:∀x∈rs,x∈rs++b4:=λx hx=>q0D _ hx;generalize rs++b4=rs9 at c9 J f6 T;generalize ts++m4=ts9 at c9;have a9:=e0.trans s9;have sD:=sC.trans a9;have g9:=g.up a9;have a3:=a9 _ _ a4;have d5:=a9 _ _ a5;have c2:=sD.seq hS;clear s6 s7 b0 e7 s8 e0 c6 d0 d3 e9 s9 g s5 e5 a4 a5 j2 i0;symm;refine⟨a,ns,3,rfl,c2,⋯,lt,zs,dD ns 3,rfl,g9.ta,λe=>by rw[e]at S;simp at S;omega,λz hz=>⟨(g9.zt z hz).1,(g9.zt z hz).2.2.2⟩,λz hz=>?_⟩;obtain⟨⟨k7,f9⟩,n3,⟨h8,n4⟩,pa,pb,b8⟩:=g9.zt z hz;refine⟨_,rfl,_,cR.of k7,rfl,_,_,rfl,_,_,rfl,_,_,rfl,_,_,rfl,rfl,h1 _ _ ?_⟩;clear h1 g9;have k6:=h8.more T;clear h8 T;symm;refine⟨a,ns,4,rfl,c2,⋯,z.lp,ls,dD ns 4,z.p,r,pa,pb,rfl,f9,a3,b8,r0,⋯,so.one,λlq r1 B hlq g0 D O=>h1 _ _ ?_⟩;clear h1;have h6:=O _ _ a3;have d7:=O _ _ d5;have h3:=O _ _ f9;have Z:=c9.up O;have Y:=O.seq c2;clear a3 d5 c9 c2 f9 k7;symm;refine h1 _ _ ?_;clear h1;refine am λN1 h1=>?_;have b_:∀(o:LO),o∈p->∀{a7:Hp},a7=r1->N1 [some (V.ref a),some (V.ref ls),some (V.ref ln),some (V.ref l3),some (V.int mo),some (V.ref l9),some (V.ref lt),some (V.ref l6),some z.vt,some (V.str (tx z.nm)),some (V.ref z.lp),some (V.int z.c),some (V.ref lq),some (V.str (tx o)),none,none,none,none,none,none] a7:=by
   rintro o U a7 rfl;refine h1 _ _ ?_;clear h1;have g5:∀x∈rs9,rO x:=λx hx=>(J x hx).good;have hnl:=jQ (c0 o U);symm;refine⟨l9,ls,r,o,ts9,rs9,rfl,h6,Z,g5,⋯,⋯,⋯,zB so.ok U c0 ⋯ ⋯ J,λgr dg as q7 hG f1=>h1 _ _ ?_⟩;grind;have g6:=f1 _ _ g0;refine⟨_,.inl (aQ.of g6),λlc i5=>h1 _ _ ?_⟩;clear h1;generalize M:aD q7 lc _=H13;obtain⟨f0,g4⟩:=gP i5 M;obtain⟨L,f5,p1,i4,hnp⟩:=D5 U J;have i1:o∈L:=by
    have h:tx o∈(bJ (tx o) rs9).map (·.1):=(jg _ _ _).mpr (.inl rfl);rw[f5]at h;obtain⟨m,hm,e⟩:=Lx.mp h;rw[<- eD e];exact hm
   have hE:fq rs9 L B pa pb:=⟨D.rc,D.a1,D.b1,D.a6,D.b6,D.ns,g5,p1,⋯,⋯⟩;have a0:=hG.up f0;have sn:=zN D;have f7:aH B=aH z.p:=by unfold aH;rw[D.rc.1,b8.rc.1,aO D.rc D.a1,aO b8.rc b8.a1]
   have d2:=DF (C:=aH B) i4 ⋯ ⋯ n8 (by rw[f7];exact n4);symm;refine⟨gr,dg,lc,r,o,as,rs9,L,B,pa,pb,_,rfl,a0,f5,hE,g4,.inl ⟨rfl,λq6 tb hB b3=>h1 _ _ ?_⟩⟩;clear h1;have k5:=a0.up b3;have l1:=b3 _ _ g4;have a8:=f1.trans (f0.trans b3);have h5:=a8 _ _ g0;have l7:=a8 _ _ h3;have k4:=Z.up a8;clear f1 f0 b3 hG a0 g4 a8 Y h3 d7 h6 Z g6 g0 i5;have l4:∀{t:b9},FT rs9 (aF tb) (aT B,o) t->∀u,aF tb (aT B,o)=some u->t.dep<=60:=fun{t} f u hu0=>by
    obtain⟨t2,f2,h2,_⟩:=jL hE hB _ B (Lb _) sn o u hu0;rw[f2.uniq f];omega
   have ft:∀{v:V} {H1:Hp} {Q:VK},(v=.non/\o=o\/v=.str (tx o)/\o∈L)->az q6 H1->(∀x H2,((aF tb (aT B,o)=none/\x=.non)\/∃t u,aF tb (aT B,o)=some u/\FT rs9 (aF tb) (aT B,o) t/\dt H2 t.d x)->az H1 H2->Q x H2)->eG K R CG [.ref gr,.ref lc,v] H1 Q E0:=fun{v H1 Q} hv s1 k=>by
    refine⟨gr,dg,lc,r,o,as,rs9,L,B,pa,pb,o,v,rfl,k5.up s1,f5,hE,s1 _ _ l1,hv,d2.1,d2.2,λtb2 p4=>?_⟩;rw[p4.fn hE hB];exact⟨λe H2 s2=>k _ H2 (.inl ⟨e,rfl⟩) s2,λt f u x H2 e tr s2=>k x H2 (.inr ⟨t,u,e,f,tr⟩) s2⟩
   symm;refine ft (.inl ⟨rfl,rfl⟩) (λ_ _ h=>h) λx1 H15 h9 b2=>h1 _ _ ?_;clear h1;have f3:∀{l:Addr} {H1:Hp},H1 l=some (.lst (ao B))->iP K H1 (.lst ((B.map tx).map Dt.str)) (.ref l):=fun{l H1} h=>by
    unfold iP;exact⟨l,_,rfl,aQ.of h,by rw[eB];exact DG⟩
   symm;refine .inl ⟨(B.map tx).map Dt.str,by rw[rY];decide,.inl ⟨f3 (b2 _ _ l1),f3 (b2 _ _ h5)⟩,_,rfl,?_⟩;rw[q06 (by simp)];refine ft (.inr ⟨rfl,i1⟩) b2 λx2 d1 f4 e8=>?_;have h7:∀{Q2:VK},Q2 (.bl false) d1->Gh K x2 x1 d1 Q2:=fun{Q2} k=>by
    rcases h9 with⟨e,rfl⟩ | ⟨t,u,e,f,tr⟩
    ·rcases f4 with⟨_,rfl⟩ | ⟨t2,u2,e2,_⟩
     ·exact .inl ⟨rfl,rfl,k⟩
     ·rw[e]at e2;cases e2
    ·rcases f4 with⟨e2,_⟩ | ⟨t2,u2,e2,f2,m5⟩
     ·rw[e]at e2;cases e2
     ·have et:=f.uniq f2
      subst et;have h1:=(m5.rd (K:=K));have h2:=((tr.up (dy.of e8) _).rd (K:=K))
      rw[t2.d_eq]at h1 h2;exact .inr ⟨_,by have:=ya t2;have:=l4 f u e;omega,h1,h2,k⟩
   refine h7 ⟨_,rfl,?_⟩;clear h7;rw[q06 (by simp)];refine h1 _ _ ?_;clear h1 ft f4;have d6:=b2.trans e8;have h0:=d6 _ _ h5;have l5:=d6 _ _ l7;symm;have h4:∀b:Bool,(b=true->B=z.p/\o=z.nm)->N1 [some (V.ref a),some (V.ref ls),some (V.ref ln),some (V.ref l3),some (V.int mo),some (V.ref l9),some (V.ref lt),some (V.ref l6),some z.vt,some (V.str (tx z.nm)),some (V.ref z.lp),some (V.int z.c),some (V.ref lq),some (V.str (tx o)),some (V.ref gr),some (V.ref lc),some (j8 (aF tb (aT B,o))),some x1,some (V.bl b),none] d1:=by
    intro b hb;refine h1 _ _ ?_;grind;rcases h9 with⟨e,rfl⟩ | ⟨t,u,e,f,tr⟩
    ·rw[e]
     rw[q07 rfl];cases b with
     |true=>
      obtain⟨rfl,rfl⟩:=hb rfl;obtain⟨v',_,e'⟩:=hB.min hE sn k6;rw[e]at e';cases e'
     |false=>
      rw[q07 (show j8 none=V.non from rfl),q07 (show j8 none=V.non from rfl)];exact q _
    ·obtain⟨a1,vs1,rfl,_⟩:=b9.val tr
     rw[e];rw[q06 (show ¬ j8 (some u)=V.non by intro h;cases h),q06 (by intro h;cases h)];refine h1 _ _ ?_;clear h1;have o4:b=true->u<=z.c:=λh=>by
      obtain⟨rfl,rfl⟩:=hb h;obtain⟨v',l',e'⟩:=hB.min hE sn k6;rw[e]at e';cases e';exact l'
     symm;have fin:N1 [some (V.ref a),some (V.ref ls),some (V.ref ln),some (V.ref l3),some (V.int mo),some (V.ref l9),some (V.ref lt),some (V.ref l6),some z.vt,some (V.str (tx z.nm)),some (V.ref z.lp),some (V.int z.c),some (V.ref lq),some (V.str (tx o)),some (V.ref gr),some (V.ref lc),some (j8 (some u)),some (V.ref a1),some (V.bl b),none] d1:=by
      refine h1 _ _ ?_;grind;refine⟨_,rfl,_,rfl,?_⟩;rw[q06 (by simp)];refine h1 _ _ ?_;grind;have k3:=k4.up d6;refine⟨l9,V.ref a1,t,ts9,rs9,L,B,B,pa,pb,tb,o,u,rfl,k3,tr.up (dy.of e8) _,hE,hB,sn,e,f,l4 f u e,λa2 l2 q5 q2 q1 n1=>h1 _ _ ?_⟩;clear h1;ext;rw[q07 (λh=>h)];refine⟨au b⁻¹,λp9 n7=>?_⟩;generalize M:aD q5 p9 _=H18;obtain⟨e6,q4⟩:=gP n7 M;have pr:∀{a l:Addr} {v:V},H18 a=some (.tup [.ref l,v])->v=.int u->H18 l=some (.lst (ao B))->iP K H18 (.tup [.lst ((B.map tx).map Dt.str),.int u]) (.ref a):=by
       rintro a l v g1 rfl g3;unfold iP;refine⟨a,_,rfl,cR.of g1,?_⟩;unfold dB;refine⟨_,_,rfl,f3 g3,?_⟩;unfold dB;exact⟨_,_,rfl,by unfold iP;rfl,by unfold dB;rfl⟩
      refine .inl ⟨[.lst ((B.map tx).map Dt.str),.int u],?_,.inr ⟨pr (e6 _ _ q2) rfl (e6 _ _ q1),pr q4 rfl ((n1.trans e6) _ _ h0)⟩,q _⟩;show max (Dt.deps _+1) (max 0 0)<=40;rw[rY];decide
     by_cases f8:b=true
     ·rw[q07 f8]
      exact⟨u,rfl,by rw[q06 (by have:=o4 f8;omega)];exact fin⟩
     ·rw[q06 f8];exact fin
   refine⟨lq,z.lp,B.map tx,z.p.map tx,rfl,rfl,by rw[<- eB];exact aQ.of h0,by rw[<- eB];exact aQ.of l5,_,rfl,?_⟩;have inj:∀{x y:aL},x.map tx=y.map tx->x=y:=λh=>(List.map_inj_right λ_ _=>eD).mp h
   by_cases e1:B.map tx=z.p.map tx
   ·rw[q07 (by simpa using e1)]
    exact h4 _ λh=>⟨inj e1,eD (by simpa using h)⟩
   ·rw[q06 (by simpa using e1)]
    exact h4 false λh=>nomatch h
  clear h1;ext;refine⟨a,ns,5,rfl,Y,⋯,_,rfl,cw (λ_=>?_) (λ_=>b_ z.nm n3 rfl)⟩;obtain⟨o,U,p5⟩:=gQ p0 (dD ns 5/4);have c1:0<(ao p).length:=by rw[ak];exact List.length_pos_iff.mpr p0
  exact⟨a,ns,5,rfl,Y,⋯,_,rfl,_,aQ.of d7,Int.ofNat_lt.mpr c1,_,aQ.of d7,_,p5,b_ o U rfl⟩
end
theorem bdc{n:Nat}{P:List Value->Prop}(h:∀a us,us.length=n->P (a::us)):∀us:List Value,us.length=n+1->P us:=by
 intro us e;cases us with|nil=>cases e|cons a us=>exact h a us (Nat.succ.inj e)
theorem bd0{P:List Value->Prop}(h:P []):∀us:List Value,us.length=0->P us:=by
 intro us e;cases us with|nil=>exact h|cons a us=>cases e
theorem bd1{P:List Value->Prop}(h:∀a,P [a]):∀us:List Value,us.length=1->P us:=bdc λa=>bd0 (P:=λus=>P (a::us)) (h a)
theorem bd2{P:List Value->Prop}(h:∀a b,P [a,b]):∀us:List Value,us.length=2->P us:=bdc λa=>bd1 (P:=λus=>P (a::us)) (h a)
theorem bd3{P:List Value->Prop}(h:∀a b c,P [a,b,c]):∀us:List Value,us.length=3->P us:=bdc λa=>bd2 (P:=λus=>P (a::us)) (h a)
theorem bd4{P:List Value->Prop}(h:∀a b c d,P [a,b,c,d]):∀us:List Value,us.length=4->P us:=bdc λa=>bd3 (P:=λus=>P (a::us)) (h a)
theorem bd5{P:List Value->Prop}(h:∀a b c d e,P [a,b,c,d,e]):∀us:List Value,us.length=5->P us:=bdc λa=>bd4 (P:=λus=>P (a::us)) (h a)
def FK(K:W.Frag)(x:Str)(st:Stmt)(f:Addr):Prop:=W.nsIn K mainGlobals x=some (some (.ref f))/\∃oc od osl kV doc pm an cdv ct,K.lookup f=some ⟨oc,od,.func (W.fnOf x x (cY st) (cI st) (aq st) .none kV doc pm an cdv ct),osl⟩/\W.codeIn K cdv x=true/\W.keepIn K (.ref f)=true
theorem fk_mk{K:W.Frag}{st:Stmt}{f:Addr}{oc:Value}{od an:LZ}{osl:Array (Option Value)}{kV doc pm cdv ct:Value}(a:W.nsIn K mainGlobals x=some (some (.ref f)))(l:K.lookup f=some ⟨oc,od,.func (W.fnOf x x (cY st) (cI st) (aq st) .none kV doc pm an cdv ct),osl⟩)(c:W.codeIn K cdv x=true)(k:W.keepIn K (.ref f)=true):FK K x st f:=⟨a,oc,od,osl,kV,doc,pm,an,cdv,ct,l,c,k⟩
def MK(K:W.Frag)(x q:Str)(st:Stmt)(f:Addr):Prop:=∃oc od osl kV doc pm an cdv ct,K.lookup f=some ⟨oc,od,.func (W.fnOf x q (cY st) (cI st) (aq st) .none kV doc pm an cdv ct),osl⟩/\W.codeIn K cdv q=true/\W.keepIn K (.ref f)=true/\W.isFn K (.ref f)=true
theorem mk_mk{K:W.Frag}{st:Stmt}{f:Addr}{oc:Value}{od an:LZ}{osl:Array (Option Value)}{kV doc pm cdv ct:Value}(l:K.lookup f=some ⟨oc,od,.func (W.fnOf x q (cY st) (cI st) (aq st) .none kV doc pm an cdv ct),osl⟩)(c:W.codeIn K cdv q=true)(k:W.keepIn K (.ref f)=true)(i:W.isFn K (.ref f)=true):MK K x q st f:=⟨oc,od,osl,kV,doc,pm,an,cdv,ct,l,c,k,i⟩
theorem FK.cal{K:W.Frag}{st:Stmt}{f:Addr}{mg:LS}{CX:j9}{ps:LW}{sp:Sp}(P:LV)(w:LY)(base:Heap)(q:FK K x st f)(X:K.In h)(G:h.Ns mainGlobals mg)
  (ok:∀fd,dG K x x st f fd->mg x=some (.ref f)->W.keepIn K (.ref f)=true->dO K fd ps []->bj P w K mg base CX k f fd ps sp)
  (hb:∀(kV doc pm:Value) (an:LZ) (cdv ct:Value) (us:LQ),us.length=ps.length->bindArgs (W.fnOf x x (cY st) (cI st) (aq st) .none kV doc pm an cdv ct) ⟨us,[]⟩=pure (ps.zip us):=by first|exact λ_ _ _ _ _ _=>bd1 λ_=>rfl|exact λ_ _ _ _ _ _=>bd2 λ_ _=>rfl|exact λ_ _ _ _ _ _=>bd3 λ_ _ _=>rfl|exact λ_ _ _ _ _ _=>bd4 λ_ _ _ _=>rfl):dF P w K mg base CX k x ps sp:=by
 obtain⟨a,oc,od,osl,kV,doc,pm,an,cdv,ct,l,c,e⟩:=q;have F:=cX l c e;have b:=F.binds hb;exact⟨_,_,ok _ F (W.mg_of X G a) e b,W.mg_of X G a,e,b⟩
def FI(K:W.Frag)(x:Str)(st:Stmt)(f:Addr):Prop:=W.nsIn K mainGlobals x=some (some (.ref f))/\∃oc od osl kV doc pm an cdv ct dT o n,K.lookup f=some ⟨oc,od,.func (W.fnOf x x (cY st) (cI st) (aq st) (.ref dT) kV doc pm an cdv ct),osl⟩/\W.codeIn K cdv x=true/\W.keepIn K (.ref f)=true/\K.lookup dT=some o/\o.data=.seq #[.none] n
theorem fkd_mk{K:W.Frag}{st:Stmt}{f dT:Addr}{oc:Value}{od an:LZ}{osl:Array (Option Value)}{kV doc pm cdv ct:Value}{o:Obj}{n:Nat}(a:W.nsIn K mainGlobals x=some (some (.ref f)))(l:K.lookup f=some ⟨oc,od,.func (W.fnOf x x (cY st) (cI st) (aq st) (.ref dT) kV doc pm an cdv ct),osl⟩)(c:W.codeIn K cdv x=true)(k:W.keepIn K (.ref f)=true)(t:K.lookup dT=some o)(d:o.data=.seq #[.none] n):FI K x st f:=⟨a,oc,od,osl,kV,doc,pm,an,cdv,ct,dT,o,n,l,c,k,t,d⟩
theorem FI.cal{K:W.Frag}{st:Stmt}{f:Addr}{base:Heap}{mg:LS}{CX:j9}{ps:LW}{sp:Sp}(q:FI K x st f)(X:K.In h)(G:h.Ns mainGlobals mg)
  (ok:∀fd dT,zF K x x st f fd dT->bj P w K mg base CX k f fd ps sp)
  (hb:∀(dT:Addr) (kV doc pm:Value) (an:LZ) (cdv ct:Value) (us:LQ),us.length=ps.length->∃g,bindArgs (W.fnOf x x (cY st) (cI st) (aq st) (.ref dT) kV doc pm an cdv ct) ⟨us,[]⟩=seqItems? (.ref dT) >>= g/\g (some #[.none])=pure (ps.zip us)):dF P w K mg base CX k x ps sp:=by
 obtain⟨a,m,j,b,kV,doc,pm,an,cdv,ct,dT,o,n,l,c,p,t,d⟩:=q;refine⟨f,_,ok _ dT ⟨m,j,kV,doc,pm,an,cdv,ct,b,rfl,l,c⟩,W.mg_of X G a,p,λs us r e=>?_⟩;rw[Lm]at e ⊢;obtain⟨g,h1,h2⟩:=hb dT kV doc pm an cdv ct us e;exact BindsTo.of_defaults rfl (r _ _ t) d h1 h2
theorem FI.cald{K:W.Frag}{st:Stmt}{f:Addr}{base:Heap}{mg:LS}{CX:j9}{ps:LW}{sp:Sp}(q:FI K x st f)(X:K.In h)(G:h.Ns mainGlobals mg)
  (ok:∀fd dT,zF K x x st f fd dT->bj P w K mg base CX k f fd ps sp)
  (hb:∀(dT:Addr) (kV doc pm:Value) (an:LZ) (cdv ct:Value) (us:LQ),us.length+1=ps.length->∃g,bindArgs (W.fnOf x x (cY st) (cI st) (aq st) (.ref dT) kV doc pm an cdv ct) ⟨us,[]⟩=seqItems? (.ref dT) >>= g/\g (some #[.none])=pure (ps.zip (us++[Value.none]))):Dj P w K mg base CX k x ps sp [.non]:=by
 obtain⟨a,m,j,b,kV,doc,pm,an,cdv,ct,dT,o,n,l,c,p,t,d⟩:=q;refine⟨f,_,[.none],ok _ dT ⟨m,j,kV,doc,pm,an,cdv,ct,b,rfl,l,c⟩,W.mg_of X G a,p,λs us r e=>?_,.cons rfl .nil⟩;obtain⟨g,h1,h2⟩:=hb dT kV doc pm an cdv ct us (by rw[La]at e;exact e);exact BindsTo.of_defaults rfl (r _ _ t) d h1 h2
theorem all_mk{l:W.OpenLaw}{K:W.Frag}{mg:LS}{fa f2:Addr}(X:K.In h)(G:h.Ns mainGlobals mg)(Gs:mg "law"=some (.ref fa))
  (a1:FK K "only_of" mH f1) (a2:FK K "is_name" mZ f2) (a3:FK K "are_signs" jz f3) (a4:FK K "check_made_of" fe f4) (a5:FK K "numbers_by_name" dY f5) (a6:FK K "mirror" oV f6) (a7:FK K "column_from_below" dA f7) (a8:FK K "quarter" mE f8) (a9:FK K "turned" pG f9) (IT:FK K "after" ue f10) (ID:FK K "back" wG f11) (Ie:FK K "shown" s_ f12) (Jn:FK K "windows_of" iz f13) (IV:FK K "cut_out" mw f14) (JD:FK K "cells_then_rows" dP f15) (Iv:FK K "seen_in" mP f16) (J0:FK K "parted" oE f17) (IN:FK K "parted_texts" fN f18) (J7:FK K "cost_by" mB f19) (Kw:FK K "coming" o0 f20) (Kf:FK K "lower" sO f21) (Km:FK K "put_together" fK f22) (JG:FK K "turn_about" iE f23) (JA:FK K "enter_turnings" eF f24) (IP:FK K "enter_seen" iw f25) (Kl:FK K "table_of" kP f26) (Kc:FK K "name_asked" iD f27) (Ka:FI K "least_cost" iC f28) (Ja:FK K "grown" tZ f29) (JZ:FK K "first_step" iu f30) (HZ:FI K "first_tree" iL f31) (JM:FK K "_law_cell" ow f32) (IY:FK K "_law_whole" mj f33) (Jh:FK K "_law_signs" lW f34) (Ks:FK K "_law_names" mz f35) (Kx:FK K "_law_grammar" ji f36) (Ku:FK K "_law_turned" kl f37) (JI:FK K "_law_put" tO f38) (Jo:FK K "_law_grown" mY f39) (IK:FK K "_law_picked" kT f40) (I0:FK K "_law_laid" oq f41) (Ju:FK K "_law_noise" mv f42) (J_:FK K "_law_changed" i8 f43) (Kt:FK K "law" rf f44)
  {yac zAa zda zoa zaa zja zba zma zca zpa zha zBa zua zwa zCa zea zra zOa zDa zEa yaa yaG ya5 zna:Addr} {ybw ybq ybo ybA yby ybm ybC ybz ybu:Tok}  (zn:W.nsIn K mainGlobals "CAPITALS"=some (some (.str "ABCDEFGHIJKLMNOPQRSTUVWXYZ" ybw))) (DZ:W.nsIn K mainGlobals "SMALLS"=some (some (.str "abcdefghijklmnopqrstuvwxyz" ybq))) (qK:W.nsIn K mainGlobals "LONGEST_NAME"=some (some (.int 4 ybo))) (GO:W.nsIn K mainGlobals "Rule"=some (some (.ref yac))) (E7:W.specialIn K (.ref yac) "__getattribute__"=some (some (.builtin "type.__getattribute__"))) (Fa:W.readsIn K yac (.type "type")=true) (nM:W.findCls K (.ref yac) (.type "type") "__init__"=some (.val (.ref zAa))) (nU:MK K "__init__" "Rule.__init__" gx zAa) (Ab:W.nsIn K mainGlobals "CellRule"=some (some (.ref zda))) (F0:W.specialIn K (.builtin "object.__class__") "__get__"=some (some (.builtin "getset_descriptor.__get__"))) (FW:W.takesIn K (.builtin "object.__class__")=some true) (Jr:W.plainGet K zda Str.empty=true) (JN:W.hasDictIn K zda=true) (KA:W.plainOver K zda=true) (J9:W.findIn K (.ref zda) "__setattr__"=some (some (.builtin "object.__setattr__"))) (IW:W.findIn K (.ref zda) "__class__"=some (some (.builtin "object.__class__"))) (IU:W.mroIn K zda (.type "object")=some true) (JR:W.findIn K (.ref zda) "name"=some none) (I8:W.findIn K (.ref zda) "cost"=some none) (IH:W.findIn K (.ref zda) "part_names"=some none) (Kd:W.findIn K (.ref zda) "sign"=some none) (xu:W.makesIn K zda=true) (xB:W.findIn K (.ref zda) "__init__"=some (some (.ref zoa))) (jX:MK K "__init__" "CellRule.__init__" gb zoa) (wM:W.keepIn K (.ref zda)=true) (JF:W.kitOne K (.ref zda) (.ref yac)=some true) (Ih:W.kitOne K (.ref zda) (.ref zda)=some true) (vm:W.nsIn K mainGlobals "BesideRule"=some (some (.ref zaa))) (Js:W.plainGet K zaa Str.empty=true) (JW:W.hasDictIn K zaa=true) (IF:W.plainOver K zaa=true) (IC:W.findIn K (.ref zaa) "__setattr__"=some (some (.builtin "object.__setattr__"))) (Jf:W.findIn K (.ref zaa) "__class__"=some (some (.builtin "object.__class__"))) (JK:W.mroIn K zaa (.type "object")=some true) (Iz:W.findIn K (.ref zaa) "name"=some none) (J1:W.findIn K (.ref zaa) "cost"=some none) (Jc:W.findIn K (.ref zaa) "part_names"=some none) (Iy:W.findIn K (.ref zaa) "one"=some none) (JH:W.findIn K (.ref zaa) "other"=some none) (sL:W.makesIn K zaa=true) (sd:W.findIn K (.ref zaa) "__init__"=some (some (.ref zja))) (i5:MK K "__init__" "BesideRule.__init__" eS zja) (sE:W.keepIn K (.ref zaa)=true) (J8:W.kitOne K (.ref zaa) (.ref yac)=some true) (HY:W.kitOne K (.ref zaa) (.ref zaa)=some true) (xH:W.nsIn K mainGlobals "AboveRule"=some (some (.ref zba))) (Jx:W.plainGet K zba Str.empty=true) (JV:W.hasDictIn K zba=true) (IA:W.plainOver K zba=true) (JP:W.findIn K (.ref zba) "__setattr__"=some (some (.builtin "object.__setattr__"))) (J':W.findIn K (.ref zba) "__class__"=some (some (.builtin "object.__class__"))) (IB:W.mroIn K zba (.type "object")=some true) (Jw:W.findIn K (.ref zba) "name"=some none) (IJ:W.findIn K (.ref zba) "cost"=some none) (JX:W.findIn K (.ref zba) "part_names"=some none) (J3:W.findIn K (.ref zba) "one"=some none) (Ke:W.findIn K (.ref zba) "other"=some none) (vR:W.makesIn K zba=true) (uO:W.findIn K (.ref zba) "__init__"=some (some (.ref zma))) (ju:MK K "__init__" "AboveRule.__init__" fD zma) (vU:W.keepIn K (.ref zba)=true) (II:W.kitOne K (.ref zba) (.ref yac)=some true) (Il:W.kitOne K (.ref zba) (.ref zba)=some true) (zb:W.nsIn K mainGlobals "TurnRule"=some (some (.ref zca))) (JS:W.plainGet K zca Str.empty=true) (Kh:W.hasDictIn K zca=true) (Ir:W.plainOver K zca=true) (I_:W.findIn K (.ref zca) "__setattr__"=some (some (.builtin "object.__setattr__"))) (IM:W.findIn K (.ref zca) "__class__"=some (some (.builtin "object.__class__"))) (JO:W.mroIn K zca (.type "object")=some true) (JL:W.findIn K (.ref zca) "name"=some none) (IX:W.findIn K (.ref zca) "cost"=some none) (IZ:W.findIn K (.ref zca) "part_names"=some none) (Ix:W.findIn K (.ref zca) "part"=some none) (I9:W.findIn K (.ref zca) "turning"=some none) (wI:W.makesIn K zca=true) (xa:W.findIn K (.ref zca) "__init__"=some (some (.ref zpa))) (jU:MK K "__init__" "TurnRule.__init__" gz zpa) (wS:W.keepIn K (.ref zca)=true) (Ji:W.kitOne K (.ref zca) (.ref yac)=some true) (Io:W.kitOne K (.ref zca) (.ref zca)=some true) (uQ:W.nsIn K mainGlobals "MOST_SIGNS"=some (some (.int 4 ybA))) (uT:W.nsIn K mainGlobals "MOST_RULES"=some (some (.int 24 yby))) (vW:W.nsIn K mainGlobals "MOST_NAMES"=some (some (.int 8 ybm))) (z_:W.nsIn K mainGlobals "TURNINGS"=some (some (.int 8 ybC))) (IG:W.kitOne K (.ref zda) (.ref zaa)=some false) (IL:W.kitOne K (.ref zda) (.ref zba)=some false) (Jg:W.kitOne K (.ref zda) (.ref zca)=some false) (Jj:W.kitOne K (.ref zaa) (.ref zda)=some false) (JB:W.kitOne K (.ref zaa) (.ref zba)=some false) (JU:W.kitOne K (.ref zaa) (.ref zca)=some false) (Jd:W.kitOne K (.ref zba) (.ref zda)=some false) (Jy:W.kitOne K (.ref zba) (.ref zaa)=some false) (Jb:W.kitOne K (.ref zba) (.ref zca)=some false) (JT:W.kitOne K (.ref zca) (.ref zda)=some false) (Jl:W.kitOne K (.ref zca) (.ref zaa)=some false) (Jp:W.kitOne K (.ref zca) (.ref zba)=some false) (mQ:W.findIn K (.ref zda) "parts"=some (some (.ref zha))) (tY:MK K "parts" "Rule.parts" fA zha) (nG:W.findIn K (.ref zda) "ways"=some (some (.ref zBa))) (nJ:MK K "ways" "CellRule.ways" gt zBa) (kq:W.findIn K (.ref zaa) "parts"=some (some (.ref zha))) (lA:W.findIn K (.ref zaa) "ways"=some (some (.ref zua))) (lB:MK K "ways" "BesideRule.ways" eJ zua) (lv:W.findIn K (.ref zba) "parts"=some (some (.ref zha))) (mS:W.findIn K (.ref zba) "ways"=some (some (.ref zwa))) (mX:MK K "ways" "AboveRule.ways" fw zwa) (md:W.findIn K (.ref zca) "parts"=some (some (.ref zha))) (nR:W.findIn K (.ref zca) "ways"=some (some (.ref zCa))) (nQ:MK K "ways" "TurnRule.ways" gi zCa) (B5:W.nsIn K mainGlobals "Grammar"=some (some (.ref zea))) (Jv:W.plainGet K zea Str.empty=true) (Jt:W.hasDictIn K zea=true) (Iu:W.plainOver K zea=true) (J2:W.findIn K (.ref zea) "__setattr__"=some (some (.builtin "object.__setattr__"))) (Jq:W.findIn K (.ref zea) "__class__"=some (some (.builtin "object.__class__"))) (Kb:W.mroIn K zea (.type "object")=some true) (Ki:W.findIn K (.ref zea) "signs"=some none) (JE:W.findIn K (.ref zea) "start"=some none) (Iw:W.findIn K (.ref zea) "kept"=some none) (Jk:W.findIn K (.ref zea) "numbers"=some none) (zE:W.makesIn K zea=true) (yU:W.findIn K (.ref zea) "__init__"=some (some (.ref zra))) (kB:MK K "__init__" "Grammar.__init__" gy zra) (zo:W.keepIn K (.ref zea)=true) (oK:W.findIn K (.ref zea) "rule"=some (some (.ref zOa))) (pO:MK K "rule" "Grammar.rule" gw zOa) (nz:W.findIn K (.ref zea) "rules"=some (some (.ref zDa))) (nB:MK K "rules" "Grammar.rules" fE zDa) (nE:W.findIn K (.ref zea) "names"=some (some (.ref zEa))) (nw:MK K "names" "Grammar.names" fo zEa) (Gf:W.nsIn K mainGlobals "Cuts"=some (some (.ref yaa))) (Fx:W.plainGet K yaa Str.empty=true) (E5:W.hasDictIn K yaa=true) (Fh:W.plainOver K yaa=true) (FD:W.findIn K (.ref yaa) "__setattr__"=some (some (.builtin "object.__setattr__"))) (Fz:W.findIn K (.ref yaa) "__class__"=some (some (.builtin "object.__class__"))) (FH:W.mroIn K yaa (.type "object")=some true) (pi:W.findIn K (.ref yaa) "picture"=some none) (vz:W.findIn K (.ref yaa) "text"=some none) (jW:W.findIn K (.ref yaa) "beside_texts"=some none) (kz:W.findIn K (.ref yaa) "above_texts"=some none) (Fd:W.makesIn K yaa=true) (EL:W.findIn K (.ref yaa) "__init__"=some (some (.ref yaG))) (nV:MK K "__init__" "Cuts.__init__" gD yaG) (Fe:W.keepIn K (.ref yaa)=true) (km:W.findIn K (.ref yaa) "turned_text"=some (some (.ref ya5))) (kH:MK K "turned_text" "Cuts.turned_text" eQ ya5) (je:W.findIn K (.ref zea) "numbers_of"=some (some (.ref zna))) (jk:MK K "numbers_of" "Grammar.numbers_of" df zna) (qF:W.nsIn K mainGlobals "MOST_NUMBERS"=some (some (.int 200 ybz))) (sH:W.nsIn K mainGlobals "MOST_WITHIN"=some (some (.int 60 ybu)))
  (z0:W.nsIn K mainGlobals "len"=some none) (z1:W.nsIn K mainGlobals "range"=some none) (z2:W.nsIn K mainGlobals "list"=some none) (z3:W.nsIn K mainGlobals "tuple"=some none) (z4:W.nsIn K mainGlobals "isinstance"=some none) (z5:W.nsIn K mainGlobals "int"=some none) (z6:W.nsIn K mainGlobals "bool"=some none) (z7:W.nsIn K mainGlobals "str"=some none) (z8:W.nsIn K mainGlobals "reversed"=some none) (z9:W.nsIn K mainGlobals "all"=some none) (Kn:W.nsIn K mainGlobals "enumerate"=some none) (JJ:W.nsIn K mainGlobals "zip"=some none) (Kg:W.nsIn K mainGlobals "sorted"=some none) (IS:W.nsIn K mainGlobals "set"=some none) (Jz:W.nsIn K mainGlobals "dict"=some none) (J6:W.nsIn K mainGlobals "min"=some none) (Jm:W.nsIn K mainGlobals "max"=some none) (Kv:W.nsIn K mainGlobals "sum"=some none) (Kz:W.nsIn K mainGlobals "ValueError"=some none) :
  ∃fd:FuncData,(∀(s:LP) (v:Value),BindsTo s fd ⟨[v],[]⟩ [("_law_script",v)])/\∀base:Heap,K.In base->base.Ns mainGlobals mg->bj l.prog w K mg base bu 63 fa fd ["_law_script"] (um K):=by
 obtain⟨an,oc,od,osl,kV,doc,pm,ann,cdv,ct,hl,hc,hk⟩:=Kt;have e:=Gs.symm.trans (W.mg_of X G an);cases e;have FL:=cX hl hc hk;have nb:NB mg:=⟨W.mg_none_of X G z0,W.mg_none_of X G z1,W.mg_none_of X G z2,W.mg_none_of X G z3,W.mg_none_of X G z4,W.mg_none_of X G z5,W.mg_none_of X G z6,W.mg_none_of X G z7,W.mg_none_of X G z8,W.mg_none_of X G z9,W.mg_none_of X G Kn,W.mg_none_of X G JJ,W.mg_none_of X G Kg,W.mg_none_of X G IS,W.mg_none_of X G Jz,W.mg_none_of X G J6,W.mg_none_of X G Jm,W.mg_none_of X G Kv,W.mg_none_of X G Kz⟩;refine⟨W.fnOf "law" "law" (cY rf) (cI rf) (aq rf) .none kV doc pm ann cdv ct,λs v=>.of_eq rfl,λbase _ _=>?_⟩;have yaU:=W.mg_of X G zn;have yam:=W.mg_of X G DZ;have yax:=W.mg_of X G qK;have ybt:=W.mg_of X G GO;obtain⟨_,_,_,_,_,_,_,_,_,mlRule___init__,mcRule___init__,zab,mfRule___init__⟩:=nU;have zbb:=cX (st:=gx) mlRule___init__ mcRule___init__ zab;have zrc:=zbb.binds (ps:=["self","name","cost","part_names"]) λ_ _ _ _ _ _=>bd4 λ_ _ _ _=>rfl
 have ybr:Bv K yac "__init__" zAa:=⟨E7,Fa,nM,zab⟩;have zVa:=W.mg_of X G Ab;have zPa:jn K zda:=⟨⟨Jr,JN,KA,J9⟩,IW,F0,FW,IU⟩;obtain⟨_,_,_,_,_,_,_,_,_,mlCellRule___init__,mcCellRule___init__,zBb,mfCellRule___init__⟩:=jX;have zKa:=cX (st:=gb) mlCellRule___init__ mcCellRule___init__ zBb;have zCb:=zKa.binds (ps:=["self","name","cost","sign"]) λ_ _ _ _ _ _=>bd4 λ_ _ _ _=>rfl
 have zRc:Mk K zda zoa:=⟨xu,xB,mfCellRule___init__,wM⟩;have zIc:=W.mg_of X G vm;have zva:jn K zaa:=⟨⟨Js,JW,IF,IC⟩,Jf,F0,FW,JK⟩;obtain⟨_,_,_,_,_,_,_,_,_,mlBesideRule___init__,mcBesideRule___init__,zrb,mfBesideRule___init__⟩:=i5;have zya:=cX (st:=eS) mlBesideRule___init__ mcBesideRule___init__ zrb;have zsb:=zya.binds (ps:=["self","name","cost","one","other"]) λ_ _ _ _ _ _=>bd5 λ_ _ _ _ _=>rfl
 have zBc:Mk K zaa zja:=⟨sL,sd,mfBesideRule___init__,sE⟩;have zSc:=W.mg_of X G xH;have zFa:jn K zba:=⟨⟨Jx,JV,IA,JP⟩,J',F0,FW,IB⟩;obtain⟨_,_,_,_,_,_,_,_,_,mlAboveRule___init__,mcAboveRule___init__,zyb,mfAboveRule___init__⟩:=ju;have zGa:=cX (st:=fD) mlAboveRule___init__ mcAboveRule___init__ zyb;have zzb:=zGa.binds (ps:=["self","name","cost","one","other"]) λ_ _ _ _ _ _=>bd5 λ_ _ _ _ _=>rfl
 have zJc:Mk K zba zma:=⟨vR,uO,mfAboveRule___init__,vU⟩;have zza:=W.mg_of X G zb;have zQa:jn K zca:=⟨⟨JS,Kh,Ir,I_⟩,IM,F0,FW,JO⟩;obtain⟨_,_,_,_,_,_,_,_,_,mlTurnRule___init__,mcTurnRule___init__,zDb,mfTurnRule___init__⟩:=jU;have zLa:=cX (st:=gz) mlTurnRule___init__ mcTurnRule___init__ zDb;have zEb:=zLa.binds (ps:=["self","name","cost","part","turning"]) λ_ _ _ _ _ _=>bd5 λ_ _ _ _ _=>rfl
 have zTc:Mk K zca zpa:=⟨wI,xa,mfTurnRule___init__,wS⟩
 let R:RC:=⟨yac,zda,zaa,zba,zca⟩
 have rk:ki K R:=⟨zPa,zva,zFa,zQa,⟨JR,I8,IH,Kd⟩,⟨Iz,J1,Jc,Iy,JH⟩,⟨Jw,IJ,JX,J3,Ke⟩,⟨JL,IX,IZ,Ix,I9⟩,JF,J8,II,Ji,Ih,HY,Il,Io⟩;have ya3:=W.mg_of X G uQ;have yaL:=W.mg_of X G uT;have yaE:=W.mg_of X G vW;have yal:=W.mg_of X G z_;have rk4:Cn K R:=⟨λi j hi hj=>by rcases eM hi with rfl | rfl | rfl | rfl<;>rcases eM hj with rfl | rfl | rfl | rfl;exact Ih;exact IG;exact IL;exact Jg;exact Jj;exact HY;exact JB;exact JU;exact Jd;exact Jy;exact Il;exact Jb;exact JT;exact Jl;exact Jp;exact Io⟩;obtain⟨_,_,_,_,_,_,_,_,_,mlRule_parts,mcRule_parts,zsa,mfRule_parts⟩:=tY;have zta:=cX (st:=fA) mlRule_parts mcRule_parts zsa;have zHa:=zta.binds (ps:=["self"]) λ_ _ _ _ _ _=>bd1 λ_=>rfl
 have zUb:iX K zda "parts" zha:=⟨mQ,mfRule_parts,zsa⟩;obtain⟨_,_,_,_,_,_,_,_,_,mlCellRule_ways,mcCellRule_ways,zcb,mfCellRule_ways⟩:=nJ;have zdb:=cX (st:=gt) mlCellRule_ways mcCellRule_ways zcb;have zsc:=zdb.binds (ps:=["self","cuts"]) λ_ _ _ _ _ _=>bd2 λ_ _=>rfl
 have zcc:iX K zda "ways" zBa:=⟨nG,mfCellRule_ways,zcb⟩;have zFb:iX K zaa "parts" zha:=⟨kq,mfRule_parts,zsa⟩;obtain⟨_,_,_,_,_,_,_,_,_,mlBesideRule_ways,mcBesideRule_ways,zTa,mfBesideRule_ways⟩:=lB;have zUa:=cX (st:=eJ) mlBesideRule_ways mcBesideRule_ways zTa;have zVb:=zUa.binds (ps:=["self","cuts"]) λ_ _ _ _ _ _=>bd2 λ_ _=>rfl
 have zMb:iX K zaa "ways" zua:=⟨lA,mfBesideRule_ways,zTa⟩;have zNb:iX K zba "parts" zha:=⟨lv,mfRule_parts,zsa⟩;obtain⟨_,_,_,_,_,_,_,_,_,mlAboveRule_ways,mcAboveRule_ways,zXa,mfAboveRule_ways⟩:=mX;have zYa:=cX (st:=fw) mlAboveRule_ways mcAboveRule_ways zXa;have zdc:=zYa.binds (ps:=["self","cuts"]) λ_ _ _ _ _ _=>bd2 λ_ _=>rfl
 have zWb:iX K zba "ways" zwa:=⟨mS,mfAboveRule_ways,zXa⟩;have zXb:iX K zca "parts" zha:=⟨md,mfRule_parts,zsa⟩;obtain⟨_,_,_,_,_,_,_,_,_,mlTurnRule_ways,mcTurnRule_ways,zeb,mfTurnRule_ways⟩:=nQ;have zfb:=cX (st:=gi) mlTurnRule_ways mcTurnRule_ways zeb;have ztc:=zfb.binds (ps:=["self","cuts"]) λ_ _ _ _ _ _=>bd2 λ_ _=>rfl
 have zec:iX K zca "ways" zCa:=⟨nR,mfTurnRule_ways,zeb⟩;have zqd:=W.mg_of X G B5;have zia:jn K zea:=⟨⟨Jv,Jt,Iu,J2⟩,Jq,F0,FW,Kb⟩;obtain⟨_,_,_,_,_,_,_,_,_,mlGrammar___init__,mcGrammar___init__,zOb,mfGrammar___init__⟩:=kB;have zRa:=cX (st:=gy) mlGrammar___init__ mcGrammar___init__ zOb;have zPb:=zRa.binds (ps:=["self","signs","start","rules"]) λ_ _ _ _ _ _=>bd4 λ_ _ _ _=>rfl
 have zhd:Mk K zea zra:=⟨zE,yU,mfGrammar___init__,zo⟩;have gk:HX K zea:=⟨zia,Ki,JE,Iw,Jk⟩;obtain⟨_,_,_,_,_,_,_,_,_,mlGrammar_rule,mcGrammar_rule,ztb,mfGrammar_rule⟩:=pO;have zub:=cX (st:=gw) mlGrammar_rule mcGrammar_rule ztb;have zyc:=zub.binds (ps:=["self","k"]) λ_ _ _ _ _ _=>bd2 λ_ _=>rfl
 have zuc:iX K zea "rule" zOa:=⟨oK,mfGrammar_rule,ztb⟩;obtain⟨_,_,_,_,_,_,_,_,_,mlGrammar_rules,mcGrammar_rules,zgb,mfGrammar_rules⟩:=nB;have zhb:=cX (st:=fE) mlGrammar_rules mcGrammar_rules zgb;have zvc:=zhb.binds (ps:=["self"]) λ_ _ _ _ _ _=>bd1 λ_=>rfl
 have zfc:iX K zea "rules" zDa:=⟨nz,mfGrammar_rules,zgb⟩;obtain⟨_,_,_,_,_,_,_,_,_,mlGrammar_names,mcGrammar_names,zib,mfGrammar_names⟩:=nw;have zjb:=cX (st:=fo) mlGrammar_names mcGrammar_names zib;have zwc:=zjb.binds (ps:=["self"]) λ_ _ _ _ _ _=>bd1 λ_=>rfl
 have zgc:iX K zea "names" zEa:=⟨nE,mfGrammar_names,zib⟩;have ybE:=W.mg_of X G Gf;have yad:jn K yaa:=⟨⟨Fx,E5,Fh,FD⟩,Fz,F0,FW,FH⟩;obtain⟨_,_,_,_,_,_,_,_,_,mlCuts___init__,mcCuts___init__,mkCuts___init__,mfCuts___init__⟩:=nV;have ybj:=cX (st:=gD) mlCuts___init__ mcCuts___init__ mkCuts___init__;have ybn:=ybj.binds (ps:=["self","picture"]) λ_ _ _ _ _ _=>bd2 λ_ _=>rfl
 have ybx:Mk K yaa yaG:=⟨Fd,EL,mfCuts___init__,Fe⟩;obtain⟨_,_,_,_,_,_,_,_,_,mlCuts_turned_text,mcCuts_turned_text,mkCuts_turned_text,mfCuts_turned_text⟩:=kH;have ybh:=cX (st:=eQ) mlCuts_turned_text mcCuts_turned_text mkCuts_turned_text;have ybp:=ybh.binds (ps:=["self","t"]) λ_ _ _ _ _ _=>bd2 λ_ _=>rfl
 have ybl:iX K yaa "turned_text" ya5:=⟨km,mfCuts_turned_text,mkCuts_turned_text⟩;have nc:Dg K yaa:=⟨pi,vz,jW,kz⟩;obtain⟨_,_,_,_,_,_,_,_,_,mlGrammar_numbers_of,mcGrammar_numbers_of,zIa,mfGrammar_numbers_of⟩:=jk;have zJa:=cX (st:=df) mlGrammar_numbers_of mcGrammar_numbers_of zIa;have zAb:=zJa.binds (ps:=["self","name"]) λ_ _ _ _ _ _=>bd2 λ_ _=>rfl
 have zvb:iX K zea "numbers_of" zna:=⟨je,mfGrammar_numbers_of,zIa⟩;have yar:=W.mg_of X G qF;have yat:=W.mg_of X G sH;have yaf:=a1∣xq F nb;have yan:=a2∣wN F nb yax yaU yaf;have zfa:Ac l.prog w K mg base bu 3 "Rule" "__init__" ["self","name","cost","part_names"] (dr K):=⟨_,_,_,sw zbb nb yan,ybt,ybr,zrc⟩;have zkb:li l.prog w K mg base bu 4 "CellRule" zda ["self","name","cost","sign"] (ii K):=⟨_,_,su zKa nb yam yaf zfa,zVa,zRc,zCb⟩;have zSa:li l.prog w K mg base bu 4 "BesideRule" zaa ["self","name","cost","one","other"] (dv K):=⟨_,_,pV zya nb zfa,zIc,zBc,zsb⟩;have zWa:li l.prog w K mg base bu 4 "AboveRule" zba ["self","name","cost","one","other"] (dv K):=⟨_,_,qy zGa nb zfa,zSc,zJc,zzb⟩;have zlb:li l.prog w K mg base bu 4 "TurnRule" zca ["self","name","cost","part","turning"] (iq K):=⟨_,_,ux zLa nb zfa,zza,zTc,zEb⟩;have yao:v3 l.prog w K mg base bu 1 "parts" (kJ K R):=Et ⟨_,_,_,eR zta nb,zPa.cl,zUb,zHa⟩ ⟨_,_,_,eR zta nb,zva.cl,zFb,zHa⟩ ⟨_,_,_,eR zta nb,zFa.cl,zNb,zHa⟩ ⟨_,_,_,eR zta nb,zQa.cl,zXb,zHa⟩;have yaH:=a3∣uE F nb ya3 yam yaf;have yaW:=a4∣mN F nb rk rk4 yaL zVa yaH yan;have yaO:=a5∣kj F nb rk yao;have zwb:li l.prog w K mg base bu 4 "Grammar" zea ["self","signs","start","rules"] (iy K R):=⟨_,_,uo zRa nb yaE yaW yaO,zqd,zhd,zPb⟩;have yae:hZ l.prog w K mg base bu 1 zea "rule" ["self","k"] (dR R zea):=⟨_,_,sW zub nb zia.cl gk.na,zia.cl,zuc,zyc⟩;have yaw:hZ l.prog w K mg base bu 1 zea "rules" ["self"] (gL R zea):=⟨_,_,qw zhb nb zia.cl gk.na,zia.cl,zfc,zvc⟩;have ya6:hZ l.prog w K mg base bu 1 zea "names" ["self"] (gI R zea):=⟨_,_,qG zjb nb zia.cl gk.na,zia.cl,zgc,zwc⟩;have yap:hZ l.prog w K mg base bu 1 zea "numbers_of" ["self","name"] (cZ R zea):=⟨_,_,kt zJa nb zia.cl gk.na,zia.cl,zvb,zAb⟩;have yaZ:=a6∣Ai F nb;have yaS:=a7∣zY F nb;have yaX:=a8∣wR F nb yaS;have zka:=a9∣zm F nb yaZ yaX;have yaT:=IT∣CM F;have ya7:=ID∣D6 F;have yab:=Ie∣Cq F;have yaK:=Jn∣qj F nb;have ya2:=IV∣wB F nb;have ya1:=JD∣kU F nb;have yaF:=Iv∣xM F nb yal yaK ya2 zka yab ya1;have yaA:=J0∣zr F nb;have yav:=IN∣nI F nb yaA yab;have yai:li l.prog w K mg base bu 3 "Cuts" yaa ["self","picture"] (fC K):=⟨_,_,tF ybj nb yab yav,ybE,ybx,ybn⟩;have zMa:hZ l.prog w K mg base bu 4 yaa "turned_text" ["self","t"] (fP yaa):=⟨_,_,pW ybh nb yad.cl nc zka yab,yad.cl,ybl,ybp⟩;have ya4:v3 l.prog w K mg base bu 5 "ways" (qf R yaa):=Et ⟨_,_,_,(sr zdb yad.cl nc zPa.cl rk.a0.2.2.2).mono b⁻¹,zPa.cl,zcc,zsc⟩ ⟨_,_,_,(pM zUa yad.cl nc zva.cl ⟨rk.a1.2.2.2.1,rk.a1.2.2.2.2⟩).mono b⁻¹,zva.cl,zMb,zVb⟩ ⟨_,_,_,(qz zYa yad.cl nc zFa.cl ⟨rk.a2.2.2.2.1,rk.a2.2.2.2.2⟩).mono b⁻¹,zFa.cl,zWb,zdc⟩ ⟨_,_,_,sG zfb yad zQa.cl ⟨rk.a3.2.2.2.1,rk.a3.2.2.2.2⟩ zMa ya7,zQa.cl,zec,ztc⟩;have yaM:=J7∣xU F nb rk;have yak:=Kw∣zA F nb yae ya4 yaM;have yaj:=Kf∣BG F nb;have yaC:=Km∣nN F nb rk yad.cl nc yae yak yaj;have yaR:=JG∣qk F nb rk yaT yaj;have yaY:=JA∣ld F nb rk rk4 yad nc yal zza yaw ya6 yai zka yaC yaR;have yaP:=IP∣qv F nb yaF yab yaY;have yah:=Kl∣vx F nb yaP;have yag:=Kc∣qx F nb zia.cl gk.na yap;have yaN:=Ka.cald (P:=l.prog) (w:=w) (base:=base) X G (λ_ _ F=>qO F nb yag yah yab) λ_ _ _ _ _ _ _ us hl=>match us,hl with | [_,_],_=>⟨_,rfl,rfl⟩
 have yau:=Ja∣Cy F nb rk yao yae;have yas:=JZ∣qC F nb yad nc yap yai yak;have yaQ:=HZ.cal (P:=l.prog) (w:=w) (base:=base) X G (λ_ _ F=>j0 F nb yar yat yag yab yah yas yau) λ_ _ _ _ _ _ _ us hl=>match us,hl with | [_,_,_],_=>⟨_,rfl,rfl⟩
 have yay:=HZ.cald (P:=l.prog) (w:=w) (base:=base) X G (λ_ _ F=>j0 F nb yar yat yag yab yah yas yau) λ_ _ _ _ _ _ _ us hl=>match us,hl with | [_,_],_=>⟨_,rfl,rfl⟩
 have zga:=JM∣y3 F nb;have zqa:=IY∣xw F nb;have zGb:=Jh∣w_ F nb;have zHb:=Ks∣xR F nb;have znb:=Kx∣tP F nb rk gk zkb zSa zWa zlb zwb;have zla:=Ku∣v_ F nb;have zxa:=JI∣CN F nb;have zIb:=Jo∣xJ F nb zxa zla;have zxb:=IK∣vI F nb;have zNa:=I0∣re F nb zqa zla zxa m k b 60 b⁻¹;have zJb:=Ju∣wU F nb;have zmb:=J_∣uk F nb;exact FM FL nb zga zqa zGb zHb zIb zJb zxb zmb znb yaN yaQ yay zNa
theorem walk{l:W.OpenLaw}{loose:LW}{XP:(Str->Option Value)->Heap->Prop}{YP:World->Heap->Prop}{d:DefRec}{K:Params->W.Frag}(hn:l.most=some 63)(hdf:d.params.defaults=[])
  (hY:∀(w:LY) (h:Heap),YP w h->(K w.params).In h)
  (F:∀(w:LY) (mg:LS) (fa:Addr) (h:Heap),(K w.params).In h->h.Ns mainGlobals mg->mg d.name=some (.ref fa) ->
   ∃fd:FuncData,(∀(s:LP) (u:Value),BindsTo s fd ⟨[u],[]⟩ [("_law_script",u)])/\∀base:Heap,(K w.params).In base->base.Ns mainGlobals mg->bj l.prog w (K w.params) mg base bu 63 fa fd ["_law_script"] (um (K w.params))) :
  W.WalkO q loose XP YP l.row.toRowW d [] (λf vs=>PySem.call f vs):=
 L2.walk_of (n:=63) (k:=63) (x:="_law_script") (CX:=λ_=>bu) (sp:=λw=>um (K w.params)) hn b⁻¹ hdf ⟨rfl,by decide,by decide⟩ hY F (λ_ _ a ns hl _ hS=>⟨a,ns,rfl,hS,λ_=>rfl⟩) λ_ _ _ _ _ z=>z
end Q25
open PySem PySem.W PyProof.Rows
local macro_rules | `(tactic| walk_at "kk")=>`(tactic| first | (refine' Q25.fk_mk ?p ?q ?r ?s;(case p=>k_is);(case q=>k_is);(case r=>k_is);(case s=>k_is)) | (refine' Q25.fkd_mk ?p ?q ?r ?s ?t ?u;(case p=>k_is);(case q=>k_is);(case r=>k_is);(case s=>k_is);(case t=>k_is);(case u=>rfl)) | (refine' Q25.mk_mk ?p ?q ?r ?s;(case p=>k_is);(case q=>k_is);(case r=>k_is);(case s=>k_is)) | k_is | kernel_rfl | rfl | decide +kernel)
set_option maxRecDepth 100000 in
set_option maxHeartbeats 0 in
theorem PySem.Challenge.cw_quiltlaw_k25_first_tree_laid_holds : PySem.Challenge.rw_quiltlaw_k25_first_tree_laid.Holds := by
 w_on;o_law;k_head;(case hw=>w_witness2)
 k_fill
 refine Q25.walk (l:=PySem.Challenge.rw_quiltlaw_k25_first_tree_laid) rfl rfl (λw h Y=>PySem.W.kIn_of Y) ?F
 case F=>
  intro w mg fa h KX G hmg
  apply Q25.all_mk KX G hmg
  all_goals (try walk_at "kk")
