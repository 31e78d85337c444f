import PyProof.Rows.All
import Wide.All
import OpenK.AllK
import Wide.FinOn
import Lean
import PyProof.EqAt
import PyProof.EqKinds
import PyProof.TupleCall
import PyProof.CollectIter
import PyProof.JoinWalk
import PyProof.StrOps
import PyProof.ListOps
import PyProof.StrLawsJoin
import KE.KRevIter
import PyProof.StrLawsFirst
import PyProof.Rows.StrNews2
import PyProof.StrLawsTight
import PyProof.StrLawsChain
import KE.KIntText
import KE.IntTextLaws
import PyProof.ListStr
import KE.KDictLaws
import KE.KDictList
import PyProof.Rows.SetFrom
import PyProof.FitsReplace
import KE.KEqDict
import PyProof.Rows.SumAny
import PyProof.Rows.CallKwBuiltin
import PyProof.EnumMake
import PyProof.TupleIter
import PyProof.Rows.TupIter
import PyProof.FactsAll.range_2
import PyProof.AutoSeq1
import PyProof.Rows.Range3
import PyProof.ZipIter
import PySem.Challenge.RW_quiltlaw_k35_numbers_refused
set_option bootstrap.genMatcherCode false
set_option tactic.hygienic false
def nop(x:Lean.Syntax):Lean.Syntax:=x.rewriteBottomUp λ|.atom _ v=>.atom .none v|.ident _ r n p=>.ident .none r n p|.node _ k a=>.node .none k a|y=>y
local macro_rules|`($m:declModifiers theorem $i:declId $s:declSig $v:declVal)=>do
 if i.raw.getPos?.isNone then Lean.Macro.throwUnsupported
 return nop (<-`($m:declModifiers theorem $i $s:declSig $v:declVal))
local macro_rules|`($m:declModifiers def $i:declId $s:optDeclSig $v:declVal)=>do
 if m.raw != (<-`(def x:=0)).raw[0]then Lean.Macro.throwUnsupported
 return nop (<-`(noncomputable def $i $s $v:declVal))
local macro_rules|`($m:declModifiers abbrev $i:declId $s:optDeclSig $v:declVal)=>do
 if m.raw != (<-`(def x:=0)).raw[0]then Lean.Macro.throwUnsupported
 return nop (<-`(noncomputable abbrev $i $s $v:declVal))
local macro_rules|`(command|set_option $o:ident $s:str)=>do
 if o.getId != `tw then Lean.Macro.throwUnsupported
 let n:=s.getString.toList.toArray.map λc=>if c.toNat<64 then c.toNat-35 else if c.toNat<92 then c.toNat-36 else c.toNat-37
 let a<-(List.range (n.size/10)).toArray.mapM λi=>let x:=(List.range 10).foldl (λa j=>a*90+n[10*i+j]!) 0;let y:=Lean.mkIdent (.mkSimple s!"tw{x}");`(command|theorem $y:ident:True:=⟨⟩)
 return Lean.mkNullNode a
namespace PySem.W.Fast
set_option tw "9rIr=LRua}#$OTKzP{4c-[j1K~D./qKD'&~]<Tz9IPkqmy2&1T(B/DoKaTg?=ydHL6#W9+EkB^+Bu5+m$,l);K75#LA1KJ]-fTRqQj<S|jCD/#L4~fl?p?wHM;KB<nu9MR)I`k,*[&j-B7ZAu_qZ%yASPY=AlWN+9B>Dbw'-q#Q)>+?<Zv)E8YF{18**|*(3qKC'mb*|(K2u80n'e</6dIV7gA]Q%A*tBkltMG'&(by/9u82Iap|l)3P'nEBg.sa%'8CQko'5<nE%4==WS-fP9FIJ&}7c8{<J$I,3V|:H`:2OoQTw5T:),0tV}Hh&w}f0u=-f_AJ7^*#$$RO,tN,$-y>eWinClNS)]J^?:)^7.MB7Z3/n*LN{z00[YtC)4jn](YFhWNdJ`VBWUB<$/Lk1b|tY`$T0/-_qDVrDy$l7~Te(tKVs}9pJkok)'jg&E7`3)L7ty^7-rJ%(Jc+7C^X;NQPg2T*iX%1.2>E[nEb+k;7:8KXc4sg,Um&<|L0Zg6tg;]6w[de6aZJprL)2X/HHiP464cN(Bywjt7iS?0,oV(_|SGe/v/D<ImNnDM#*I1Sc{Q;5LMp+X2X#=G&[eno..nXO`e},(Y5hz<e:01ZKu2I1/kFOdo<vj<<#>d^H'52'|WP8kB,CMK,eZE0iKT[&O}HM7Zs_:=/*t?p99%:L{+)iju}o2-#Ixwx&lH:CrI5.iGS_.?#yo>,Hc{CHTBQ&(DIhU9$vyv0T35#=OtCPQs=MwA%/z:sqvFPH:^IyuxrXT2m#Djso=uq:G4BR]R,*=GnmrMo7np%O7#Es/p.fJEO*>l;J#.Z=?_Q|y8O=/2&$N,n,R<NP1[87{H7MNR:Vm&I_Qbc:=?~xk.fOo8-Ck>q|Kim#+A.LHII];&yZWcuFZtZ+ww-z8lLm/>]arV#rm_;*Pj)V8l|YBN#24zJ>4KVNld?_mYhCNF+2,^TJsHX7HP~;XU]sT;G1KkS>T/i&YF|R:%Kr{IZF>It[rAZ=W}AGkp*5a&C|g_-k&<cH02e=WeW2GP7{>J#Wer>,P]oe.~SE:>zA0TuBCdx3~{|q93)(OO)xu^'}uVUIo_xy4gm[22w+xs{Hi1nA%liHJ{?8GP:<2%8mUf[,[T1^)C3;AG)pL%JvJA6ID148[kTx|I2FTw^H,3UB%&1Wnksq8P4q|H6=FcU(f577>HmdS&*o0>9V|Ln=iP4baDpg('m]<gE#:iv-XcUR}S*.x7U?.>{<OoQ7IHws)F6ne8jRs6S>3C]4rB}]]IPeRMU)S(n~&lPA;[_(m/Rl;N2W2L7`9Z=/`c%K`+](73P(>vWYY(]%GVEd7T1sFCTSj'om|L=7xxU9yR/R_/XUCEQEEJsHbZJQJmYTw;XP{W?z;)FE+z/%K}AID1WYePL`VPs/x}gyN*#Hk#0FMq(ib>'&rWoRPa}=F1,_Yxo*kM/<J?JiZIdhy6am(8JVoz/ANy$uWzc~Q)uE<sFN),YP8(US?uf8EH^p;TW8KOY.^kW[ti7DK'-m3rM>x~MCN6Dm6EG^^Ed/eZ|L=1GQgEI?,./_O2R(/`ePUGz%^:WiU=(ux(Eh-~aW)oW2l=+#oBEJ[;Q,|vU[qDS,;3zDxV1CM>_p)U$6ys&'4Px~lmKxQLgwLDq4%gGApCm=:Ub{CC[DK_w?|'h8d9JO=j1Mb*c0Y}BVJC~Hdkn/oG.B[Jj1->p491p0FdNk`|a|<#>}k/-S-1>3d<b4Di3Yk.1I&)F8^+/**^(rZAf{DN*_y]fH?yD?XxQiH~E3??Xs#*32Yt{5}<xR-^sY):OXlTiewQsGCu>TXUQ8o0xYq8[PLtw:+CWmfxEnV<BKqau:|WJ.Ekz|*EHL3OY'm#Mum;mR?cSq>Q:mH'5h>X`>D?m5[s$Z'i1C-7:RA1^}%}eC=<Z3ZNK:)BK|o~?njnF7p^^jw<{9/C1FnG;0J#L7qU+$Kuxg]A07'[4YDLD*A4R>S[K$O8$8zow4B6`3Q,Lo0]5Ml&3{<6<7fWlC}zERMYC+IK|(nargu+^=3TRfUB{pxP3:tedK,rO$b`0EVS7PnGGLPaVSj7YFT'v#Z(2{nI.aLPpKTPMR<)&J#8;%Q8/LD~z;~|d)pZQPE<3o0PCT0A_{pOS3C%Ex5+xRv<7v^<qF93$$ba[Jg8_n2M|d5fY|N;MN2?tA-}jg$PVmaS]_czCC-N,mVG/]4-/sqA63lXYOTM3^5]wUKQfC|Um:-u,IO8p3jQFJ0CSIM%w_g+E$:uE=%M(i(>v.'B>GW<p,-pZeo6A>DS4*dlO3'Ky:'3y.p_[d+&keFuVvSW].4GCOTfPu5N*[IZ?Fze)$U<YeQOzX):e_Lt%B`~iCFQJFJ{3CyEL$?UQe62m,s/6K7;Pp?4#6VO9_hGe0tnqj3gfX1BT8|<A$V*X0q6*d&F5Dg:p<T?IY44y7;a(X4nHvLQ0vY(.yw4]&jymd9Ojg-%|y)Ru%A~aIfZ]|)y#cc6lbrcO~XC?NwX5nKTEvaJ5:?2snprHEaDo?2=28/3lM(WPs+_ZDcdE<Z9=pyEU9b|%p&'cAxf//RXxGTQzm*l(&JwZ/;lqU^_}0;-'65>[l33F%I#wE9dO_hE<oZ/96+lbOFUp-`b6400Z}2XG1eTp$|$^w;+3epBYqq&arQ+CN4k8?-#DI,D5zH3=YVj<E`So]&{`al,[1Cn,nut0<wp2-Tcfd4)al~t/02fQ3Ct3Bzil8bEl=K;ybWh,779KTH3wA4/g+Uir#hz09pm/T7~;SA9/%X6q%Hw[NOc=6ROX{*A=Ohwn-PI~,'Y/HaeAt4LT%hGXaEW^B#?<Q{u%}6AaVpg=}V<~)hU$X)o$e|M3-)Hk){rv,{xGFFTobV,9-1E28DZ;9K[pf3hL]i,Ys>npTmF+N$a&#y~$kHDAvoN,u`cHCdg*J*%|d->$8wI_}5oe.J;U|13Ym+CjdN+YTUNy>*d8pvnpVy:bhO}P%mfg?1,:+Cd+9L#StVA+~ioTER#l&*<^<kG&ZD#b2)SJ?Wk+_V3]uqL|YZMlYqN#/bv$,',4wq-Le{8)&&09ISn7&6q(}}9nFjC]RDI_QjN_,.[hrJQqjs%9Ua<N,i{uiSHsLXC:xKeNHTF]9JO5DM}WXL'4BEKM%.0sE~_(VHr_u?5FdY~t=cnpN[t^k;`]v>R$n5x{qEzK*:xn^oXTn&QByAujW{XI?QRncm&d+,<~=wg6XZc~HTj6bumZ8x*/J75p&7AG;4hVqc~K,d&L0``[PEkA&3j]=&R~r|(17}wL5Z[2P`GuQZXd7M;IMABlA0P,=ReqSE$ddx3D]E38u$7U&^9zk)2LQh5]Y7C-&PddF?,s|U(4_Q0pPg,~?6Fb<_N7}%zuo$SBwy/o<#h|9kgg<(yr`.2h0bB<b#p[LL[Hj|~1o~2{]*28S/is2y/:`<P*Vs:hh'[^`nV1NJgsa7t<gcG+:{'MmG6iEg3+c]a5n?81Y1:V38V)/F/}}CQM'-<&0oq^S{/9Cl<FH)Ig`D&2IYW0-1p;*r_g[2?/8q,*HN#Y/$_9FdY|lPkX2+#+0ep<IGj+)KO^difR'J.[tA^[V1ggDqUpWK#)6]LI{y;VyVv/9#abaN_FyRF>.}{u|iic?/gEzkK>jm91s8ocsVKe+&5N3jZY-9&/)w1tO5%o*V?FO5%2$L%U'}Z%60/O1Uh]$;4jrE&.=wfQPD<8>^2{ez7:Oj-cl+<?l]8Y8g]:qcXWQUMkrr<OC7T[=xXABI0s9&+^;wvO-n|zQcR2y]6Z8A%e*WF}OF_O*.`d]ro+F`;8EsX3EF)G${|LJ4{lf^HqxRn8na.nRsDh-qGMRl+tma$M02#`/-{ta/4PFhAG,*,A1K]h0w}m}Q#8Z35fdrERx[$%))&8KAY=+e8VUPNZsJ()+2|:2PjROwH)fsiUA$uXG]{uh4)K6J66{?5-r]S%EF5y^ga>w3$}~jFLfIPa$ek+_Q_g#m,DtVgJ%ljFPij*TJvpWs0C7Zr6()?mK~i`0%}%XD6`E}G_z)97(=sQ3$/aw?C5ahZ*myU{?D2Sd.E6'H6xUa0Mn^NuG6Tz%H~u^cCh#5pe*EF#5A.pTbyl2c#+$3,Q-4nFCPVvs{u+ABL==1xk[*+P9_)7(e.)']J]dVaamkY[>m,[$jqwBQ=YEoDM$|BU52n5EY2vltD,IiCEZ*ttPX{uV:PL{j2o0t2Xiuo03py0^1i_A:ESM,i-:&K[4y1ETQ7laQ7m/KAgu6DIE)~go`7q{z#0/q,f}fFn(x/}UMH-G.N0=a9p%Ax2#5xCuGS454HZ,GQfj7O.LG5)|cpnwfIfx`Fa4h~xQjQDsDg4/j-.R4+v0%nmGc`ZoDO5L%GvLoKM'$8?Gso&ky{jRg%:5d^Yr$O]HzI7d?#SUa0{.t:rhw,}Msh>>>/h713bcm1q-/QD6Fypp&<0>L;r1oL|8cuF+1Fn$AJ1N{*)`qV$Qmrm,>Xq/q/$J5AxJ9xq4pw-;Uy&Z]89J95}_d14dGKm8,S+A/cqE;$zvDaAZe-t</>)i$WKbAKuqe$G8p(QM.E`#m7[dvPc)S*+8S#t/r1==F:22<,'_8uG?AEY?'VGiW=Ai|F)&q%c`ZOj+izmME`DOQBn|SiAmOGn06q&uCFI)G,$cuSk44rY?~l<4(^yd(6f}x1Lbp+S0o?ifr5[D|'gi4M99Ln<0G^KZwbQx,$cCD-JFVK(%&{kw<1Ua[2E3#)(ajJx5Kaj6T`%OY)U`:4oCX8nRJ9&q7vZmh<(o[WcV%pAE('2~Sm/`Y2L1?%`j*Q0BO}]DhCTg[&~uNGq/na::OF[Kw_Ey},;_ijaEH+/#Uy366[4nBCkDhis1Bk3>d_ARLl,SVF#bk2/Ma:)DIyRCo:WAc0dZNMSrgCRAqJ7I4MhzR?.^E6F,3X';JLSqda`3}-lYoIb)7|1NT[{{;J+?PL^x+%afk/a;`}cXGZE<J<%l)I&C9`{K/4ag0|~^cM6T{;~0`_qS7xZ3bwlqe.0c53%rDN+3SV[MPIr%'28c_eowC];?z.L2|ykH'CDp*0br#Uh8(8l_ip(oj+dMo0}n>YC/bZ6HxNt{bM)q?t?x>ACKT;|qelV5$STDo-XyUQC2/vp231E'<<t]~R{Ez#<6L>Ytcm1d[Q|ydA_g,:.6EW$E{07n6M?hbo8qIFA.^zf`LA5R<(<(U*gBQ7n/px:&&PN/(92gfNdy0|`3]&CAYN3RM0I{8-#<Irl2[p|3gHO{r>k(kw735qYRp-vo+3hzlLuSGS-x{Kt:3:s.-Pm7rBx:)Ia9}OmN=>m~14C#V&o{P.kkBBg:B$-ct>>JkB'w9z4ga_%S#SITqUlz3;zfpF>tUnD7t24Iz`~{1-jF,-,oN>u$Q'pxDA1Fg#ZJx&9`$GPPK#W6=Dj-cJGr_Hn_D-VS(BeKkL/5wC5qgVQvS[PL|,Lf8dkQ'G%zS>vG~RB>.:oHBjm<HRK%GA/zN8HPu$%QaZG1s&]Q+TUUCUnLrWLR+I{LKN^~qZ{H-|^%uAH%'Cr44=ZgltKb1.nI|u7BF8)gG25#9M^v}>E>/KArd^5#:+<lM7Gdp&8(0$gwySy7*1H'Sp8>(|(#fG3=q7wdM#(A94>d4_*7`$=OQVVUY<-9bUooQDWO>Fh~YjT8b/1^L=;z?8AIZnUmFB$7`&s.kQ]zDP[.kmfdyT<$<Ll`f~|vzd(.kd55P^di.CMy$(uy>EvIfY9J}JA}hFcoz-]1kF?BB;_uw}#ka&*ISxt=)rsNycN*{&Y4wQL,=<+DiKwQ}sut9;L0)B4GSy/<A:kI)Z|W[;w;3I[oNZ?q4D72o|D#IG^<%9kyhDYV'HDI5xLLrvkW=CUnE5A+]G_A$VDJ'N=Q1Ir-(MhGFPT*oH,)I~^5+7MIxBK_7P3L=2x]`,B;}&f|WKD1r_uN$uAz6,t]X'8l1{Xz%.-%5b$L`0a_qAj_OC<E6miO}F94H[1|w/=3gYCU<z=*4^;6uE'rR5s17/Gpq*pJLwY-z+P^23,XB'2aWMW%fS=R=Edg$,/<u+e~6;Y8X2_%p-a1A&/b6adi>vG>=pit{5Zk8En7CbW#xa(Jj29L^V4,.GMV];}.-5j+Hn5hn0+n:%5^6]l1X.ONY6c)LKhsnQhz7'-[wg(E+[$(bgF%b+eLB{OI'tO6u=nFJ(#'nE=}i,+nM;b,z0uzllQ%,<7znB51mD,N~*cgb%Kt|O^bu~/bJ[&:;Rr0`dc[h#zw<1rE-F(Oe1GRP4v>SFFz:H*[JGPE3Us5PC5275w[V+;6_T_(bmBk~uW7{IG7#LMU*_F32~V158sFkJ^_Gq7^jQq75.&MtS;IT.9tn9{K'rDLRO'Us8uzuDo~w<Cj]$m=#.(U~#:Y/)22^BMs.O36Q:s-#ODF1By]lcU}PEe6N%8KY_.:]:sq3lj/Jh'+en{'u6L9k.{hM?1QHZ)?AIkh5wH+NHT&%%U'8$?;+G?HhaN{J3Atl1WkaImR$z^d6#3{R)191h#*>^q#}7kqb[cT_Hd?]B{vK5g7e_0hUHK=-8fw~7[U7`z%FG;+7J%v,*~)35SXeF[31&WbpgpW$L*/KW-~a1|'GB({KDUPtK}Rf?P1Si*3nMf.W`vP:J>#vIIz#k*&<)5qQ/Qk>0%|E9`OI`E2?,COb/7rn+oaTt?fNGA2>C{u;88BW>s;}EWi{z4I,ZFVEQ9^E(hMt1W1Tt8Qo?&'x6}C1:tvVFe$&dgHL{,<#2%v%3&+sYia+y7AM`JZ5gkzV7`|Md;c#Ew9&y+~L~rP+I`PRTw<KG-K_3tM&#]:9*I,}cMrNh1N'&#y50|BqJ~l(MVOID3-Va%dNFK,JLlYB3MvX=35~#nA^ycs+E(kBf)3.K_FVa>04_,lg.grUS]E*JAOKdVU%'omj3]/(Q'Q`/U$PZWM5HcE.09l%`%:Cb:<L=^'3lza^62F9:Sl;U`CxB:3R?)XA?H4q7jybSx76dy^u08R8N#P.,}t&x.OM>1Hw9Rdt6NIQF=MHHA&pJBT}{;LA=+zC5GaYWOG1M'+oMdH4>?4{E$|%s$)E]$:G?&AtIWqE{Qt1,6%o9HpiTv[G5M.pR're'15LP'.<L&W7(iG.*)'8-J,Gy#{.dfOX)}MH4<IOK'=q)Y0W]5-gR>7],#LiGD0tZvap3stu8<Y18a80OH6Cz|P^k9`L#3jv~N>=N_'pp?fjA#zHGS`Zy8H/pD%k;wUz|so=3iK^yK6/VVBYt#L}[+[39tJcL38)$HF#AzZg$>7F#_Rt>]lv/-LtuL<WZ]t]1gOjgF={}JB[Wx~F;zA]4Q(DQ(+K;%3-L$T{0;[#88dN]XDX#sJ^J9_^hd=ZKBII.)9>OHQ|}EYsGf&zR3BHde<e885,G3+5>YtQIS$T<]z/.n%L<R*ET8z<=K`:c3Oqe:C,%qz]F>rU8M0AiEAbL&/yNI/$FbInO;UssfmAFl6oy82&#&7>=NEL)lbjZ:Na7ABc*c96G_#K:[-FZ`2WPG]UC8|0+UH[<1D6+G9J~q&e.^D&BV&w)pF^ct3zDmZDF,[z)p[wyt|ID&%E]%gI'U0^1}#t|JPED>#2^nMi;g~0A2P:3#${S~'N*eV')D+dPt:h**3,Zt87qoeH6z}&FwSZM)eKYE9b[}W0Ys?[Pnx{z.yzvE;]9uB|u[zU7LkR0;hJ_p&F5]M:Ji`404kuy<%)lUQ;5S+N{]*~B64U=GItm`AX4P=NvbZ*O*Nvk2e]tM*k`j(Q6U84JBKgdZrknYPU=A}=8lqGB6z0I^BQBA"
end PySem.W.Fast
set_option autoImplicit true
set_option relaxedAutoImplicit true
abbrev q04:=@PySem.wpAny_bind
abbrev q05:=@PySem.wpAny_pure
abbrev q06:=@if_neg
abbrev q07:=@if_pos
abbrev q08:=@decide_eq_false
abbrev q09:=@decide_eq_true
abbrev q0A:=@List.getD_eq_getElem?_getD
abbrev q0B:=@List.mem_cons_self
abbrev q0C:=@List.mem_append_right
abbrev q0D:=@List.take_add_one
abbrev q0E:=@List.take_of_length_le
abbrev q0F:=@List.mem_of_mem_take
abbrev q0G:=@List.length_range
abbrev q0H:=@List.map_congr_left
abbrev q0I:=@Option.getD_some
abbrev q0J:=@List.range_succ
abbrev q0K:=@List.length_zip
abbrev q0L:=@Bool.and_eq_true
abbrev q0M:=@Nat.le_of_lt
abbrev q0N:=@absurd
abbrev q0O:=@congrArg
abbrev q0P:=@Option.some.inj
abbrev q0Q:=@List.filterMap_cons
abbrev q0R:=@PySem.sizeLine_eq
abbrev q0S:=@PySem.wpAny_mono
abbrev q0T:=@PySem.wpAny_holding
abbrev q0U:=@List.length_singleton
abbrev q0V:=@Bool.false_eq_true
abbrev q0W:=@decide_eq_true_eq
theorem zzl(h:1=1:=by exact Or.inl rfl):1=1:=h
theorem zz0(h:1=1:=by rfl):1=1:=h
theorem zz1(h:1=1:=by decide):1=1:=h
theorem zz2(h:1=1:=by decide +kernel):1=1:=h
theorem zz3(h:1=1:=by first | exact .inl rfl | exact .inr rfl | assumption):1=1:=h
theorem zz4(h:1=1:=by intro _;rfl):1=1:=h
theorem zz5(h:1=1:=by with_unfolding_all rfl):1=1:=h
theorem zz6(h:1=1:=by first | exact Or.inl rfl | exact Or.inr (Or.inl rfl) | exact Or.inr (Or.inr rfl)):1=1:=h
local macro_rules|`(tactic|omega)=>`(tactic|first|lia|omega +splitDisjunctions)
set_option linter.all false
set_option Elab.async false
set_option maxRecDepth 100000
abbrev Nt:=PySem.Value->PySem.Shared->Prop
abbrev Nu:=PySem.W.Frag
abbrev Nv:=List (PySem.Addr×PySem.Obj)
abbrev Nw:=List Nat
abbrev Ny:=PySem.Shared
abbrev Nz:=List PySem.Value
abbrev NA:=List PySem.Addr
abbrev NC:=PySem.Str->Option PySem.Value
abbrev ND:=PySem.FuncData
abbrev NE:=PySem.Program
abbrev NF:=List PySem.Str
abbrev NG:=PySem.Around
abbrev NH:=PySem.World
abbrev NJ:=Option PySem.Addr
abbrev NK:=List PySem.Expr
local macro_rules|`(term|⋯)=>`(by omega)
local macro_rules|`(term|nofun)=>`(by decide)
abbrev Mx:=@List.getElem?_eq_getElem
abbrev My:=@List.getElem?_eq_some_iff
abbrev Mz:=@PySem.Heap.get?_push_of_some
abbrev MA:=@List.length_map
abbrev MB:=@List.mem_singleton
abbrev MC:=@List.getElem?_map
abbrev MD:=@List.mem_of_getElem?
abbrev ME:=@PySem.Heap.get?_update_other
abbrev MF:=@PySem.Heap.get?_push_size
abbrev MG:=@List.size_toArray
abbrev MH:=@List.getElem_mem
abbrev MI:=@Int.toNat_natCast
abbrev MJ:=@PySem.Heap.get?_update_self
abbrev MK:=@List.length_cons
abbrev ML:=@List.map_append
abbrev MM:=@List.mem_append
abbrev MN:=@List.map_map
abbrev MO:=@List.mem_cons
abbrev MP:=@List.mem_cons_of_mem
abbrev MQ:=@List.length_reverse
abbrev MR:=@Nat.lt_of_lt_of_le
abbrev MS:=@Nat.ne_of_lt
abbrev MT:=@List.getElem?_append_right
abbrev MU:=@List.getElem?_append_left
abbrev MV:=@List.length_append
abbrev MW:=@Nat.le_refl
abbrev MX:=@Nat.zero_le
abbrev MY:=@Bool.false_ne_true
abbrev MZ:=@PySem.Heap.lt_size
abbrev M3:=@Option.map_eq_some_iff
abbrev M4:=@List.getElem?_cons_succ
abbrev M5:=@List.map_cons
abbrev M6:=@Nat.le_trans
abbrev M7:=@Nat.lt_irrefl
abbrev M8:=@Nat.lt_succ_self
abbrev M9:=@List.append_nil
abbrev M_:=@List.append_assoc
abbrev M':=@List.getElem?_set_self
abbrev Na:=@List.take_length
abbrev Nb:=@List.length_take
abbrev Nc:=@List.length_drop
abbrev Nd:=@Nat.lt_of_le_of_lt
abbrev Nf:=@List.length_eq_zero_iff
abbrev Ng:=@List.mem_map
abbrev Nh:=@List.all_eq_true
abbrev Ni:=@Nat.add_le_add_left
abbrev Nj:=@List.getElem_toArray
abbrev Nk:=@List.nil_append
abbrev Nl:=@List.length_set
abbrev Nm:=@Int.emod_nonneg
abbrev Nn:=@Int.emod_lt_of_pos
abbrev No:=@Int.toNat_of_nonneg
abbrev Np:=@Nat.min_eq_left
abbrev Nq:=@List.take_zero
abbrev Nr:=@List.drop_zero
set_option hygiene false
local macro_rules|`(a⁻¹)=>`((.ins C g [("name",.str (tx n)),("cost",.int c),("part_names",.ref l)]))
local macro_rules|`(↑$f)=>`($f P w K mg base bL)
local macro_rules|`($a∣$b)=>`(($a).cal l.prog w base X G (λ_ F m k b=>$b))
set_option hygiene true
namespace L2
open PySem PySem.Spec PyProof.Rows
abbrev df:=Sum Int Str
def tO:df->Value->Bool
 | .inl k,v=>Value.isInt k v
 | .inr x,v=>Value.isStrOf x v
def Jm(w:NH):df->Int
 | .inl k=>hashInt k
 | .inr x=>hashStr w x
theorem cI:∀{k:df} {v:Value},tO k v=true->(∃i t,k=Sum.inl i/\v=Value.int i t)\/(∃x t,k=Sum.inr x/\v=Value.str x t)
 | .inl i,v,h=>by
  obtain⟨t,e⟩:=Value.isInt_shape (k:=i) (v:=v) h;exact .inl ⟨i,t,rfl,e⟩
 | .inr x,v,h=>by
  obtain⟨t,e⟩:=Value.isStrOf_shape (x:=x) (v:=v) h;exact .inr ⟨x,t,rfl,e⟩
theorem Cl(i:Int)(t:Tok):tO (.inl i) (.int i t)=true:=by simp[tO,Value.isInt]
theorem Bv(x:Str)(t:Tok):tO (.inr x) (.str x t)=true:=by simp[tO,Value.isStrOf]
theorem HV(a b:Int):decide ((Sum.inl a:df)=Sum.inl b)=(a==b):=by
 by_cases e:a=b
 ·subst e;simp
 ·have h:¬ (Sum.inl a:df)=Sum.inl b:=λq=>e (Sum.inl.inj q)
  rw[q08 h];exact(beq_eq_false_iff_ne.mpr e).symm
theorem G8(a b:Str):decide ((Sum.inr a:df)=Sum.inr b)=decide (a=b):=by
 by_cases e:a=b
 ·subst e;simp
 ·have h:¬ (Sum.inr a:df)=Sum.inr b:=λq=>e (Sum.inr.inj q)
  rw[q08 h,q08 e]
theorem Hv(a:Int)(b:Str):decide ((Sum.inl a:df)=Sum.inr b)=false:=q08 (λq=>nomatch q)
theorem G4(a:Str)(b:Int):decide ((Sum.inr a:df)=Sum.inl b)=false:=q08 (λq=>nomatch q)
def cR(prog:NE)(w:NH):PySem.KeyKind prog w df where
 is:=tO
 hash:=Jm w
 inj:=λv a b ha hb=>by
  rcases cI ha with⟨i,t,rfl,rfl⟩ | ⟨x,t,rfl,rfl⟩
  ·rcases cI hb with⟨j,u,rfl,e⟩ | ⟨y,u,rfl,e⟩
   ·injection e with e1 _;rw[e1]
   ·exact nomatch e
  ·rcases cI hb with⟨j,u,rfl,e⟩ | ⟨y,u,rfl,e⟩
   ·exact nomatch e
   ·injection e with e1 _;rw[e1]
 byValue:=λk v h=>by
  rcases cI h with⟨i,t,rfl,rfl⟩ | ⟨x,t,rfl,rfl⟩<;>rfl
 pyHash:=λhv h=>by
  rcases cI hv with⟨i,t,rfl,rfl⟩ | ⟨x,t,rfl,rfl⟩
  ·exact wpAny_pyHash_int h
  ·exact wpAny_pyHash_str h
 eqBool:=λhu hv h=>by
  rcases cI hu with⟨i,t,rfl,rfl⟩ | ⟨x,t,rfl,rfl⟩
  ·rcases cI hv with⟨j,u,rfl,rfl⟩ | ⟨y,u,rfl,rfl⟩
   ·rw[HV]at h;exact wpAny_eqBool_int h
   ·rw[Hv]at h;exact SeqAt.EqAt.int_str i t y u _ _ _ _ h
  ·rcases cI hv with⟨j,u,rfl,rfl⟩ | ⟨y,u,rfl,rfl⟩
   ·rw[G4]at h;exact SeqAt.EqAt.str_int x t j u _ _ _ _ h
   ·rw[G8]at h;exact wpAny_eqBool_str h
 «strs»:=λk x t v h=>by
  rcases cI h with⟨i,u,rfl,e⟩ | ⟨y,u,rfl,e⟩
  ·exact nomatch e
  ·injection e with e1 _
   subst e1;cases v<;>rfl
theorem xH(prog:NE)(w:NH)(i:Int)(t:Tok):(cR prog w).is (.inl i) (.int i t)=true:=Cl i t
theorem wS(prog:NE)(w:NH)(x:Str)(t:Tok):(cR prog w).is (.inr x) (.str x t)=true:=Bv x t
inductive V where
 |non | bl (b:Bool) | int (i:Int) | str (x:Str) | byt (b:Array UInt8) | flt (b:UInt64) | ref (a:Addr) | ty (n:String)
 deriving DecidableEq
def bu:V->Value->Prop
 | .non,u=>u=Value.none
 | .bl b,u=>u=Value.bool b
 | .int i,u=>∃t,u=Value.int i t
 | .str x,u=>∃t,u=Value.str x t
 | .byt b,u=>∃t,u=Value.bytes b t
 | .flt b,u=>∃t,u=Value.float b t
 | .ref a,u=>u=Value.ref a
 | .ty n,u=>u=Value.type n
abbrev bo:List V->List Value->Prop:=Paired bu
theorem bo.length(r:bo xs us):xs.length=us.length:=Paired.length r
theorem bo.get:∀{xs:List V} {us:Nz} {i:Nat} {x:V},bo xs us->xs[i]?=some x->∃u,us[i]?=some u/\bu x u
 |_,_,_,_,.nil,e=>by simp at e
 |_,_,0,_,.cons r _,e=>by simp at e;subst e;exact⟨_,rfl,r⟩
 |_,_,i+1,x,.cons _ t,e=>by
  obtain⟨u,h1,h2⟩:=bo.get (i:=i) (x:=x) t (by simpa using e);exact⟨u,by simpa using h1,h2⟩
theorem bo.append:∀{xs ys:List V} {us ws:Nz},bo xs us->bo ys ws->bo (xs++ys) (us++ws)
 |_,_,_,_,.nil,s=>s
 |_,_,_,_,.cons r t,s=>.cons r (bo.append t s)
theorem bo.take:∀{xs:List V} {us:Nz} (n:Nat),bo xs us->bo (xs.take n) (us.take n)
 |_,_,0,_=>.nil
 |_,_,_+1,.nil=>.nil
 |_,_,n+1,.cons r t=>.cons r (bo.take n t)
theorem bo.drop:∀{xs:List V} {us:Nz} (n:Nat),bo xs us->bo (xs.drop n) (us.drop n)
 |_,_,0,r=>r
 |_,_,_+1,.nil=>.nil
 |_,_,n+1,.cons _ t=>bo.drop n t
def jK:Option V->Option Value->Prop
 |some v,some u=>bu v u
 |none,none=>True
 |_,_=>False
def KV{κ:Type}:List (κ×V)->List (κ×Value)->Prop:=Paired fun(p:κ×V) (q:κ×Value)=>p.1=q.1/\bu p.2 q.2
def kV:df->V
 | .inl i=>.int i
 | .inr x=>.str x
inductive HO where
  |lst (xs:List V)
  |tup (xs:List V)
  |dK (kvs:List (df×V)) | dT (kvs:List (List df×V))
  |set(S:Int->Bool) (n:Nat)
  |ins (C dx:Addr) (fs:List (Str×V))
  |own (x:Addr)
  |xd (fs:List (Str×V))
  |met (f x:Addr)
  |rng (lo hi:Int)
  |frz (o:Obj) (u:HO)
  |tbl (ps:Array Value)
  |ext (φ:Heap->Prop)
abbrev Hp:=Addr->Option HO
def ay(H:Hp)(a:Addr)(o:HO):Hp:=λb=>if b=a then some o else H b
theorem ad:ay H a o a=some o:=by unfold ay;rw[q07 rfl]
theorem ao{a b:Addr}(h:b≠a):ay H a o b=H b:=by unfold ay;rw[q06 h]
theorem nA:ay (ay H a o) a u=ay H a u:=by
 funext b;unfold ay;split<;>rfl
theorem IY{H:Hp}{o u:HO}(h:H a=some o)(h':H b=some u)(d:o≠u):a≠b:=by
 intro e;subst e;rw[h]at h';exact d (q0P h')
theorem aI{H:Hp}{o:HO}(h:H a=some o)(h':H b=none):a≠b:=by
 intro e;subst e;rw[h]at h';cases h'
section
variable (P:NE)(w:NH)
def bM(H:Hp)(h:Heap)(a:Addr):HO->Prop
 | .lst xs=>xs.length<=sizeLine/\∃(its:Nz) (n:Nat),bo xs its/\h.get? a=some {cls:=.type "list",data:=.seq its.toArray n}
 | .tup xs=>xs.length<=sizeLine/\∃its:List Value,bo xs its/\IsTup h a its.toArray
 | .dK kvs=>kvs.length<=sizeLine/\(a==sysModules)=false/\∃vs,KV kvs vs/\h.DictOf (cR P w) a vs
 | .dT kvs=>kvs.length<=sizeLine/\(a==sysModules)=false/\∃xs:List (List df×Addr×Value),
   Paired (fun(p:List df×V) (q:List df×Addr×Value)=>p.1=q.1/\H q.2.1=some (.tup (p.1.map kV))/\bu p.2 q.2.2) kvs xs /\
   ∃o es ep,h.get? a=some o/\o.ExactDict/\o.data=.dict es ep/\es.toList=xs.map (entryOfKey (tupleKind (cR P w)))/\(xs.map (·.1)).Nodup
 | .set S n=>h.SetOf (intKind P w) a S n
 | .ins C dx fs=>H dx=some (.own a)/\fs.length<=1000/\dx≠a/\h.get? a=some (PySem.W.instObj C dx) /\
   ∃mA,h.Ns1 dx mA/\(∀f,jK (fs.lookup f) (mA f))/\PySem.Within mA (fs.map (·.1))
 | .own _=>∃o,h.get? a=some o
 | .xd fs=>∃mA,h.Ns1 a mA/\∀f,jK (fs.lookup f) (mA f)
 | .rng lo hi=>∃t u v,h.get? a=some {cls:=.type "range",data:=.fields #[.int lo t,.int hi u,.int 1 v]}
 | .frz o u=>h.get? a=some o/\bM H h a u
 | .tbl ps=>h.get? a=some {cls:=.none,data:=.fields ps}
 | .met f x=>h.get? a=some (PySem.W.methodObj (.ref f) (.ref x))
 | .ext φ=>φ h/\(∃o,h.get? a=some o)/\∀h1 h2:Heap,φ h1->(∀o,h1.get? a=some o->h2.get? a=some o)->φ h2
def kZ(H:Hp)(h:Heap):Prop:=∀a o,H a=some o->bM P w H h a o
end
section
variable {P:NE}{w:NH}{H H':Hp}{h h':Heap}{a:Addr}{o:HO}
theorem bM.lt(x:bM P w H h a o):a<h.objs.size:=by
 cases o with
 |lst xs=>obtain⟨_,_,_,_,e⟩:=x;exact MZ e
 |tup xs=>obtain⟨_,_,_,p⟩:=x;exact p.lt
 |dK kvs=>obtain⟨_,_,_,_,o,_,_,e,_⟩:=x;exact MZ e
 |dT kvs=>obtain⟨_,_,_,_,o,_,_,e,_⟩:=x;exact MZ e
 |set S n=>obtain⟨o,_,_,_,e,_⟩:=x;exact MZ e
 |ins C dx fs=>obtain⟨_,_,_,e,_⟩:=x;exact MZ e
 |own y=>obtain⟨_,e⟩:=x;exact MZ e
 |xd fs=>obtain⟨_,⟨_,_,_,e,_⟩,_⟩:=x;exact MZ e
 |rng lo hi=>obtain⟨_,_,_,e⟩:=x;exact MZ e
 |frz ob u=>obtain⟨e,_⟩:=x;exact MZ e
 |tbl ps=>exact MZ (show h.get? a=some _ from x)
 |met f y=>exact MZ (show h.get? a=some _ from x)
 |ext φ=>obtain⟨_,⟨_,e⟩,_⟩:=x;exact MZ e
theorem Paired.mapP{α β:Type}{F G:α->β->Prop}:∀{l₁:List α} {l₂:List β},Paired F l₁ l₂->(∀a b,F a b->G a b)->Paired G l₁ l₂
 |_,_,.nil,_=>.nil
 |_,_,.cons r t,f=>.cons (f _ _ r) (Paired.mapP t f)
theorem bM.stay(x:bM P w H h a o)(k:∀b u,(b=a\/H b=some (.own a))->h.get? b=some u->h'.get? b=some u)
  (ho:∀b,H b=some (.own a)->H' b=some (.own a)) (ht:∀b xs,H b=some (.tup xs)->H' b=some (.tup xs)):bM P w H' h' a o:=by
 induction o with
 |lst xs=>obtain⟨z,m,n,r,e⟩:=x;exact⟨z,m,n,r,k _ _ (.inl rfl) e⟩
 |tup xs=>obtain⟨z,m,r,g,e,c⟩:=x;exact⟨z,m,r,g,k _ _ (.inl rfl) e,c⟩
 |dK kvs=>obtain⟨z,y,vs,r,g,j,l,e,c⟩:=x;exact⟨z,y,vs,r,g,j,l,k _ _ (.inl rfl) e,c⟩
 |dT kvs=>
  obtain⟨z,y,xs,r,g,j,l,e,c⟩:=x;exact⟨z,y,xs,Paired.mapP r λp q z=>⟨z.1,ht _ _ z.2.1,z.2.2⟩,g,j,l,k _ _ (.inl rfl) e,c⟩
 |set S n=>obtain⟨g,j,l,t,e,c⟩:=x;exact⟨g,j,l,t,k _ _ (.inl rfl) e,c⟩
 |ins C dx fs=>
  obtain⟨d,z,ne,e,D,⟨B,j,l,I,c⟩,r⟩:=x;exact⟨ho _ d,z,ne,k _ _ (.inl rfl) e,D,⟨B,j,l,k _ _ (.inr d) I,c⟩,r⟩
 |own y=>obtain⟨g,e⟩:=x;exact⟨g,k _ _ (.inl rfl) e⟩
 |xd fs=>obtain⟨D,⟨B,j,l,e,c⟩,r⟩:=x;exact⟨D,⟨B,j,l,k _ _ (.inl rfl) e,c⟩,r⟩
 |rng lo hi=>obtain⟨t,u,v,e⟩:=x;exact⟨t,u,v,k _ _ (.inl rfl) e⟩
 |frz g u ih=>obtain⟨e,q⟩:=x;exact⟨k _ _ (.inl rfl) e,ih q⟩
 |tbl ps=>
  have e:h.get? a=some {cls:=.none,data:=.fields ps}:=x;show h'.get? a=some {cls:=.none,data:=.fields ps};exact k a _ (.inl rfl) e
 |met f y=>
  have e:h.get? a=some (PySem.W.methodObj (.ref f) (.ref y)):=x;show h'.get? a=some (PySem.W.methodObj (.ref f) (.ref y));exact k a _ (.inl rfl) e
 |ext φ=>obtain⟨p,⟨o,e⟩,G⟩:=x;exact⟨G _ _ p λo q=>k _ _ (.inl rfl) q,⟨o,k _ _ (.inl rfl) e⟩,G⟩
theorem kZ.lt(x:kZ P w H h)(e:H a=some o):a<h.objs.size:=(x a o e).lt
theorem kZ.fresh(x:kZ P w H h)(e:h.objs.size<=a):H a=none:=by
 cases q:H a with
 |none=>rfl
 |some u=>exact q0N (MR (x.lt q) e) (M7 _)
theorem kZ.kept(x:kZ P w H h)(k:∀b u,h.get? b=some u->h'.get? b=some u):kZ P w H h':=λa o e=>
 (x a o e).stay (λb u _ q=>k b u q) (λ_ q=>q) λ_ _ q=>q
theorem kZ.laid(x:kZ P w H h)(k:∀b u,h.get? b=some u->h'.get? b=some u)(hp:h.objs.size<=a)(new:bM P w (ay H a o) h' a o):kZ P w (ay H a o) h':=λb u e=>by
 have hn:=x.fresh hp
 by_cases hb:b=a
 ·subst hb;rw[ad]at e;cases e;exact new
 ·rw[ao hb]at e
  exact(x b u e).stay (λc v _ q=>k c v q) (λc q=>by rw[ao (aI q hn)];exact q) λc xs q=>by rw[ao (aI q hn)];exact q
end
def Rd(H:Hp)(a:Addr)(u:HO):Prop:=H a=some u\/∃o,H a=some (.frz o u)
theorem Rd.ok(r:Rd H a u)(x:kZ P w H h):bM P w H h a u:=by
 rcases r with r | ⟨o,r⟩
 ·exact x a u r
 ·obtain⟨_,q⟩:=x a _ r
  exact q
def IF:Option HO->Prop
 |some (.lst _)=>True
 |some (.dK _)=>True
 |some (.dT _)=>True
 |some (.set _ _)=>True
 |some (.ins _ _ _)=>True
 |some (.ext _)=>True
 |_=>False
section
variable {P:NE}{w:NH}{H:Hp}{h h':Heap}{x e:Addr}{o':HO}
theorem kZ.write(ok:kZ P w H h)(mu:IF (H x))(he:e=x\/H e=some (.own x))(k:∀b u,b≠e->h.get? b=some u->h'.get? b=some u)(heo:∃u,h'.get? e=some u)
  (new:bM P w (ay H x o') h' x o'):kZ P w (ay H x o') h':=λb u q=>by
 have nown:∀c y,H c=some (.own y)->c≠x:=λc y r z=>by subst z;rw[r]at mu;exact mu
 have ntup:∀c xs,H c=some (.tup xs)->c≠x:=λc xs r z=>by subst z;rw[r]at mu;exact mu
 by_cases hb:b=x
 ·subst hb;rw[ad]at q;cases q;exact new
 ·rw[ao hb]at q
  by_cases hbe:b=e
  ·have q':H b=some (.own x):=by
    rcases he with z | z
    ·exact q0N (hbe.trans z) hb
    ·rw[hbe];exact z
   rw[q]at q';cases q'
   obtain⟨v,a⟩:=heo;exact⟨v,by rw[hbe];exact a⟩
  ·refine(ok b u q).stay (λc v hc r=>k c v ?_ r) (λc r=>by rw[ao (nown c b r)];exact r) λc xs r=>by rw[ao (ntup c xs r)];exact r
   rcases hc with rfl | hc
   ·exact hbe
   ·rintro rfl
    rcases he with z | z
    ·exact nown c b hc z
    ·rw[hc]at z;cases z;exact hb rfl
end
structure Un(fs ex:NA)(H H':Hp)(h h':Heap):Prop where
 keep:∀b o,h.get? b=some o->H b=none->b∉fs->b∉ex->h'.get? b=some o
 slot:∀b o,h.get? b=some o->H b=none->b∈fs->b∉ex->∃sl,h'.get? b=some {o with slots:=sl}
 free:∀b o,h.get? b=some o->H b=none->b∉ex->H' b=none
 there:∀b o,h.get? b=some o->b∉ex->∃o',h'.get? b=some o'
 tups:∀b xs,H b=some (.tup xs)->H' b=some (.tup xs)
 frzs:∀b o u,H b=some (.frz o u)->H' b=some (.frz o u)
 tbls:∀b ps,H b=some (.tbl ps)->∃more,H' b=some (.tbl (ps++more))
section
variable {fs fs' ex ex':NA}{H H1 H2:Hp}{h h1 h2 h':Heap}{a x e:Addr}{o:HO}
theorem Un.any(u:Un fs ex H H1 h h1){b:Addr}{ob:Obj}(q:h.get? b=some ob)(n:H b=none)(hx:b∉ex):∃sl,h1.get? b=some {ob with slots:=sl}:=by
 by_cases a:b∈fs
 ·exact u.slot b ob q n a hx
 ·exact⟨ob.slots,u.keep b ob q n a hx⟩
theorem Un.kept(k:∀b u,h.get? b=some u->h'.get? b=some u):Un fs ex H H h h':=
 ⟨λb ob q _ _ _=>k b ob q,λb ob q _ _ _=>⟨ob.slots,k b ob q⟩,λ_ _ _ n _=>n,λb ob q _=>⟨ob,k b ob q⟩,λ_ _ q=>q,λ_ _ _ q=>q,λ_ ps q=>⟨#[],by rw[q];simp⟩⟩
theorem Un.refl:Un fs ex H H h h:=Un.kept λ_ _ q=>q
theorem Un.laid(k:∀b u,h.get? b=some u->h'.get? b=some u)(hp:h.objs.size<=a)(hn:H a=none):Un fs ex H (ay H a o) h h' where
 keep:=λb u q _ _ _=>k b u q
 slot:=λb u q _ _ _=>⟨u.slots,k b u q⟩
 free:=λb u q n _=>by rw[ao (MS (MR (MZ q) hp))];exact n
 there:=λb u q _=>⟨u,k b u q⟩
 tups:=λb xs q=>by rw[ao (aI q hn)];exact q
 frzs:=λb u xs q=>by rw[ao (aI q hn)];exact q
 tbls:=λb ps q=>⟨#[],by rw[ao (aI q hn),q];simp⟩
theorem Un.write(mu:IF (H x))(he:e=x\/H e=some (.own x))(k:∀b u,b≠e->h.get? b=some u->h'.get? b=some u)(heo:∃u,h'.get? e=some u):Un fs ex H (ay H x o) h h':=by
 have g:∀b,H b=none->b≠x:=λb n z=>by subst z;rw[n]at mu;exact mu
 have j:∀b,H b=none->b≠e:=λb n z=>by
  subst z;rcases he with r | r
  ·exact g b n r
  ·rw[n]at r;cases r
 have c:∀b u,H b=some u->¬ IF (some u)->b≠x:=λb u q m z=>by subst z;rw[q]at mu;exact m mu
 refine⟨λb u q n _ _=>k b u (j b n) q,λb u q n _ _=>⟨u.slots,k b u (j b n) q⟩,λb u q n _=>by rw[ao (g b n)];exact n,λb u q _=>?_,
  λb l q=>by rw[ao (c b _ q λz=>z)];exact q,λb u l q=>by rw[ao (c b _ q λz=>z)];exact q,λb ps q=>⟨#[],by rw[ao (c b _ q λz=>z),q];simp⟩⟩
 by_cases a:b=e
 ·subst a;exact heo
 ·exact⟨u,k b u a q⟩
end
def Jb(h:Heap)(H:Hp):List Addr:=(List.range h.objs.size).filter λa=>(H a).isSome
def vB(h:Heap)(H:Hp):Heap:=PySem.W.hideAll h (Jb h H)
theorem Cv(h:Heap)(H:Hp):(vB h H).objs.size=h.objs.size:=PySem.W.hideAll_size _ _
theorem Es{h:Heap}{H:Hp}{b:Addr}{o:Obj}(e:h.get? b=some o)(n:H b=none):(vB h H).get? b=some o:=
 PySem.W.hideAll_get _ e λhm=>by
  have q:(H b).isSome=true:=(List.mem_filter.mp hm).2;rw[n]at q;simp at q
theorem FX{b:Addr}{o:Obj}(e:(vB h H).get? b=some o):h.get? b=some o/\H b=none:=by
 have a:h.get? b=some o:=PySem.W.of_hideAll (Jb h H) e;refine⟨a,?_⟩;cases q:H b with
 |none=>rfl
 |some x=>
  have c:b∈Jb h H:=List.mem_filter.mpr ⟨List.mem_range.mpr (MZ a),by simp[q]⟩;have z:(vB h H).get? b=none:=PySem.W.hideAll_none (Jb h H) c;rw[z]at e;cases e
def GA(g h:Heap)(L:Addr):List (Addr×Obj):=(List.range h.objs.size).filterMap λa=>if a=L\/(g.get? a).isSome=true then none else(h.get? a).map λo=>(a,o)
def cP(g h:Heap)(L d:Addr):List (Addr×Obj):=(GA g h L).filter λp=>decide (p.1≠d)
structure Mod(K:Nu)(mg:NC)(base:Heap):Prop where
 kin:K.In base
 glob:base.Ns mainGlobals mg
 blt:∃mb,base.Ns builtinsNs mb/\∀x:Str,x≠"__name__"->mb x=bootBuiltins x
 nolimit:base.NoLimit
structure Cx where
 prog:Program
 w:World
 K:PySem.W.Frag
 mg:Str->Option Value
 base:Heap
 A:Around
 N:List Str
 s₀:Shared
 H₀:Hp
 env:Env
 outer:List Env
 stack:List Env
 ex:List Addr
 fn:Str->Bool
 calm:Bool
 pn:List (Addr×Obj)
 xe:Value->Shared->Prop
def lS(l:List Env):List Addr:=l.filterMap (·.frame)
abbrev Cx.fs(X:Cx):List Addr:=lS X.outer
def Jj(sc:Scope)(x:Str):Prop:=sc.names.lookup x=some .local\/sc.names.lookup x=some .cell\/sc.names.lookup x=some .free
def Loc(sc:Scope)(x:Str):Prop:=sc.names.lookup x=some .local\/sc.names.lookup x=some .cell
def Jl(env:Env)(h:Heap)(m:NC)(x:Str)(u:Value):Prop:=
 (env.kindOf x=some .local/\m x=some u)\/((env.kindOf x=some .cell\/env.kindOf x=some .free)/\∃c,env.cells.lookup x=some c/\h.IsCell c (some u))
structure Cx.Ok(X:Cx):Prop where
 mod:Mod X.K X.mg X.base
 kind:X.env.scope.kind=.function
 glob:X.env.globals=mainGlobals
 blt:X.env.builtins=builtinsNs
 above:X.s₀.heap.objs.size<=X.env.locals
 inj:∀x y c,X.env.cells.lookup x=some c->X.env.cells.lookup y=some c->x=y
 has:∀x,(X.env.kindOf x=some .cell\/X.env.kindOf x=some .free)->∃c,X.env.cells.lookup x=some c
 cab:∀x c,X.fn x=true->X.env.cells.lookup x=some c->X.s₀.heap.objs.size<=c
 hd:X.calm=true->X.A.handled=none
 frames:X.A.frames=some X.stack
 stk:X.stack=X.outer\/(X.stack=X.env::X.outer/\X.env.frame=some X.env.locals)
 exf:∀b∈X.ex,b≠X.env.locals/\∀x c,X.env.cells.lookup x=some c->c≠b
 bs:∀b o,X.base.get? b=some o->X.s₀.heap.get? b=some o/\X.H₀ b=none
 bsz:X.base.objs.size<=X.s₀.heap.objs.size
 noex:∀b o,X.base.get? b=some o->b∉X.ex
 exfs:∀b∈X.ex,b∉X.fs
 funs:X.s₀.heap.FunFrames X.base X.outer
 frf:∀b∈X.fs,X.H₀ b=none
structure Inv(X:Cx)(pins:Nv)(σ:List (Option V))(H:Hp)(s:Ny):Prop where
 ok:X.Ok
 os:s.os=X.s₀.os
 bare:AllBare s.gens
 base:Un X.fs X.ex X.H₀ H X.s₀.heap s.heap
 loc:∃m,s.heap.Ns X.env.locals m/\∀(i:Nat) (x:Str) (v:V),X.N[i]?=some x->σ[i]?=some (some v)->Jj X.env.scope x->∃u,bu v u/\Jl X.env s.heap m x u
 cell:∀x c,X.env.cells.lookup x=some c->∃v,s.heap.IsCell c v
 free:H X.env.locals=none
 freeC:∀x c,X.env.cells.lookup x=some c->H c=none
 pin:∀p∈X.pn++pins,s.heap.get? p.1=some p.2/\H p.1=none/\p.1≠X.env.locals/\p.1∉X.fs/\∀v,p.2.data≠.cell v
 hok:kZ X.prog X.w H s.heap
 len:σ.length=X.N.length
section
variable {X:Cx}{pins:Nv}{σ:List (Option V)}{H H':Hp}{s:Ny}{h':Heap}
theorem Cx.Ok.nofr(ok:X.Ok){b:Addr}{o:Obj}(e:X.base.get? b=some o):b∉X.fs:=λhb=>by
 have:=(ok.funs.mem hb).1;rw[e]at this;cases this
theorem Inv.bs(I:Inv X pins σ H s):∀b o,X.base.get? b=some o->s.heap.get? b=some o/\H b=none:=λb o e=>
 ⟨I.base.keep b o (I.ok.bs b o e).1 (I.ok.bs b o e).2 (I.ok.nofr e) (I.ok.noex b o e),I.base.free b o (I.ok.bs b o e).1 (I.ok.bs b o e).2 (I.ok.noex b o e)⟩
theorem Inv.bk(I:Inv X pins σ H s):∀b o,X.base.get? b=some o->s.heap.get? b=some o:=λb o e=>(I.bs b o e).1
theorem Inv.mod(I:Inv X pins σ H s):Mod X.K X.mg X.base:=I.ok.mod
theorem Inv.kIn(I:Inv X pins σ H s):X.K.In s.heap:=I.ok.mod.kin.keeps I.bk
theorem Inv.lt(I:Inv X pins σ H s):X.env.locals<s.heap.objs.size:=let ⟨_,hn,_⟩:=I.loc;hn.lt
theorem Inv.sz(I:Inv X pins σ H s):X.s₀.heap.objs.size<=s.heap.objs.size:=M6 I.ok.above (q0M I.lt)
theorem Inv.nofs(I:Inv X pins σ H s){a:Addr}(h:s.heap.objs.size<=a):a∉X.fs:=λhb=>by
 obtain⟨_,o,ho,_⟩:=I.ok.funs.mem hb;exact q0N (MR (MZ ho) (M6 I.sz h)) (M7 _)
theorem Inv.cne(I:Inv X pins σ H s):∀x c,X.env.cells.lookup x=some c->c≠X.env.locals:=λx c e z=>by
 obtain⟨v,o,ho,hd⟩:=I.cell x c e;obtain⟨m,⟨o',es,ep,ho',hd',_⟩,_⟩:=I.loc;rw[z,ho']at ho;cases ho;rw[hd']at hd;cases hd
theorem Inv.funs(I:Inv X pins σ H s):s.heap.FunFrames X.base X.outer:=by
 have all:∀(l:List Env),(∀b∈lS l,b∈X.fs)->X.s₀.heap.FunFrames X.base l->s.heap.FunFrames X.base l:=by
  intro l
  induction l with
  |nil=>intro _ _;trivial
  |cons env r ih=>
   intro j n;obtain⟨p,⟨L,o,a,m,k,q⟩,hr⟩:=n;have g:L∈X.fs:=j L (by unfold lS;rw[q0Q,a];exact q0B);obtain⟨sl,e⟩:=I.base.slot L o k (I.ok.frf L g) g λz=>I.ok.exfs L z g;exact⟨p,⟨L,_,a,m,e,q⟩,ih (λb c=>j b (by unfold lS;rw[q0Q,a];exact MP _ c)) hr⟩
 exact all X.outer (λ_ c=>c) I.ok.funs
theorem Inv.stack(I:Inv X pins σ H s):s.heap.FunFrames X.base X.stack:=by
 rcases I.ok.stk with e | ⟨e,b⟩
 ·rw[e];exact I.funs
 ·rw[e]
  obtain⟨m,a,_⟩:=I.loc;refine .cons (by rw[I.ok.kind];decide) b a ?_ I.funs;exact Heap.get?_none_of_le (M6 I.ok.bsz I.ok.above)
theorem Inv.stkSub(I:Inv X pins σ H s):∀b∈lS X.stack,b∈X.env.locals::X.fs:=λb hb=>by
 rcases I.ok.stk with e | ⟨e,hf⟩
 ·rw[e]at hb;exact MP _ hb
 ·rw[e]at hb
  unfold lS at hb;rw[q0Q,hf]at hb;exact hb
theorem Inv.stkFree(I:Inv X pins σ H s):∀b∈lS X.stack,H b=none:=λb hb=>by
 rcases MO.mp (I.stkSub b hb) with e | hb
 ·rw[e];exact I.free
 ·obtain⟨_,o,ho,_⟩:=I.ok.funs.mem hb
  exact I.base.free b o ho (I.ok.frf b hb) λz=>I.ok.exfs b z hb
theorem Inv.step{t':Nat}{d':Drawn}{ch:NA}(I:Inv X pins σ H s)
  (hch:∀b∈ch,(b∈X.ex\/X.s₀.heap.objs.size<=b)/\b≠X.env.locals/\(∀x c,X.env.cells.lookup x=some c->c≠b)/\∀p∈X.pn++pins,p.1≠b)
  (keep:∀b o,b≠X.env.locals->b∉X.fs->b∉ch->s.heap.get? b=some o->H b=none->h'.get? b=some o)
  (slot:∀b o,b≠X.env.locals->b∈X.fs->b∉ch->s.heap.get? b=some o->H b=none->∃sl,h'.get? b=some {o with slots:=sl}) (free:∀b o,b∉ch->s.heap.get? b=some o->H b=none->H' b=none)
  (there:∀b o,b∉ch->s.heap.get? b=some o->∃o',h'.get? b=some o')
  (tups:∀b xs,H b=some (.tup xs)->H' b=some (.tup xs)) (frzs:∀b o u,H b=some (.frz o u)->H' b=some (.frz o u)) (tbls:∀b ps,H b=some (.tbl ps)->∃more,H' b=some (.tbl (ps++more)))
  (ns:∀m,s.heap.Ns X.env.locals m->h'.Ns X.env.locals m) (hok:kZ X.prog X.w H' h') (hg:AllBare g') :
  Inv X pins σ H' {s with heap:=h',gens:=g',drawn:=d',toks:=t' }:=by
 have D:∀b o,X.s₀.heap.get? b=some o->b≠X.env.locals:=λb o e=>MS (MR (MZ e) I.ok.above);have w:∀b o,X.s₀.heap.get? b=some o->b∉X.ex->b∉ch:=λb o e a B=>by
  rcases(hch b B).1 with z | z
  ·exact a z
  ·exact q0N (MR (MZ e) z) (M7 _)
 have j:∀x c,X.env.cells.lookup x=some c->∀v,s.heap.IsCell c v->h'.IsCell c v:=λx c e v ⟨o,C,L⟩=>by
  have g:c∉ch:=λz=>(hch c z).2.2.1 x c e rfl
  by_cases R:c∈X.fs
  ·obtain⟨sl,q⟩:=slot c o (I.cne x c e) R g C (I.freeC x c e)
   exact⟨_,q,L⟩
  ·exact⟨o,keep c o (I.cne x c e) R g C (I.freeC x c e),L⟩
 refine⟨I.ok,I.os,hg,⟨λb o e n B a=>?_,λb o e n B a=>?_,λb o e n a=>?_,λb o e a=>?_,λb xs e=>tups b xs (I.base.tups b xs e),λb o xs e=>frzs b o xs (I.base.frzs b o xs e),λb ps e=>?_⟩,?_,λx c e=>?_,?_,λx c e=>?_,λp O=>?_,hok,I.len⟩
 ·exact keep b o (D b o e) B (w b o e a) (I.base.keep b o e n B a) (I.base.free b o e n a)
 ·obtain⟨sl,y⟩:=I.base.slot b o e n B a
  obtain⟨J,G⟩:=slot b _ (D b o e) B (w b o e a) y (I.base.free b o e n a);exact⟨J,G⟩
 ·obtain⟨o',y⟩:=I.base.there b o e a
  exact free b o' (w b o e a) y (I.base.free b o e n a)
 ·obtain⟨o',y⟩:=I.base.there b o e a
  exact there b o' (w b o e a) y
 ·obtain⟨m1,y⟩:=I.base.tbls b ps e
  obtain⟨S,G⟩:=tbls b _ y;exact⟨m1++S,by rw[G,Array.append_assoc]⟩
 ·obtain⟨m,T,U⟩:=I.loc
  refine⟨m,ns m T,λi x v y G Y=>?_⟩;obtain⟨u,r,l⟩:=U i x v y G Y;refine⟨u,r,?_⟩;rcases l with l | ⟨k,c,e,z⟩
  ·exact .inl l
  ·exact .inr ⟨k,c,e,j x c e _ z⟩
 ·obtain⟨v,z⟩:=I.cell x c e
  exact⟨v,j x c e v z⟩
 ·obtain⟨m,⟨o,_,_,C,_⟩,_⟩:=I.loc
  exact free _ o (λz=>(hch _ z).2.1 rfl) C I.free
 ·obtain⟨v,o,C,L⟩:=I.cell x c e
  exact free c o (λz=>(hch c z).2.2.1 x c e rfl) C (I.freeC x c e)
 ·obtain⟨e,n,ne,M,d⟩:=I.pin p O
  have g:p.1∉ch:=λz=>(hch p.1 z).2.2.2 p O rfl;exact⟨keep p.1 p.2 ne M g e n,free p.1 p.2 g e n,ne,M,d⟩
theorem Inv.un{t':Nat}(I:Inv X pins σ H s)(u:Un X.fs [] H H' s.heap h')(hok:kZ X.prog X.w H' h'):Inv X pins σ H' {s with heap:=h',toks:=t' }:=by
 obtain⟨m,⟨o,es,ep,k,r⟩,_⟩:=id I.loc;obtain⟨sl,q⟩:=u.any k I.free (by simp);exact I.step (g':=s.gens) (d':=s.drawn) (ch:=[]) (λ_ z=>nomatch z) (λb o _ c _ e n=>u.keep b o e n c (by simp)) (λb o _ c _ e n=>u.slot b o e n c (by simp)) (λb o _ e n=>u.free b o e n (by simp)) (λb o _ e=>u.there b o e (by simp)) u.tups u.frzs u.tbls (λm' p=>by
  obtain⟨o',g,j,a,l⟩:=p;rw[k]at a;cases a
  exact⟨_,g,j,q,l⟩) hok I.bare
theorem Inv.call{t':Nat}{d':Drawn}{ch:NA}(I:Inv X pins σ H s)(u:Un (lS X.stack) ch H H' s.heap h')(hok:kZ X.prog X.w H' h')(hg:AllBare g')
  (hch:∀b∈ch,(b∈X.ex\/X.s₀.heap.objs.size<=b)/\b≠X.env.locals/\(∀x c,X.env.cells.lookup x=some c->c≠b)/\∀p∈X.pn++pins,p.1≠b) :
  Inv X pins σ H' {s with heap:=h',gens:=g',drawn:=d',toks:=t' }:=by
 obtain⟨m,⟨o,es,ep,q,r⟩,_⟩:=id I.loc;obtain⟨sl,j⟩:=u.any q I.free λz=>(hch _ z).2.1 rfl;exact I.step (ch:=ch) hch (λb o j y a e n=>u.keep b o e n (λz=>(MO.mp (I.stkSub b z)).elim j y) a) (λb o _ _ a e n=>u.any e n a) (λb o a e n=>u.free b o e n a) (λb o a e=>u.there b o e a) u.tups u.frzs u.tbls (λm' w=>by
  obtain⟨o',k,l,g,v⟩:=w;rw[q]at g;cases g
  exact⟨_,k,l,j,v⟩) hok hg
theorem Inv.turned{t':Nat}{it:Addr}(I:Inv X pins σ H s)(k:∀b o,b≠it->s.heap.get? b=some o->h'.get? b=some o)(hn:H it=none)(hL:it≠X.env.locals)
  (h1:it∈X.ex\/X.s₀.heap.objs.size<=it) (h2:∀x c,X.env.cells.lookup x=some c->c≠it) (h3:∀p∈X.pn++pins,p.1≠it):Inv X pins σ H {s with heap:=h',toks:=t' }:=by
 have g:∀b u,H b=some u->b≠it:=λb u e z=>by rw[z,hn]at e;cases e
 refine I.step (g':=s.gens) (d':=s.drawn) (ch:=[it]) (λb w=>?_) (λb o _ _ a e _=>k b o (λz=>a (by simp[z])) e) (λb o _ _ a e _=>⟨o.slots,k b o (λz=>a (by simp[z])) e⟩) (λ_ _ _ _ n=>n)
  (λb o a e=>⟨o,k b o (λz=>a (by simp[z])) e⟩) (λ_ _ e=>e) (λ_ _ _ e=>e) (λb ps e=>⟨#[],by rw[e];simp⟩) (λm l=>?_) (λb u e=>?_) I.bare
 ·have e:b=it:=by simpa using w
  subst e;exact⟨h1,hL,h2,h3⟩
 ·obtain⟨o,y,B,j,r⟩:=l
  exact⟨o,y,B,k _ o (Ne.symm hL) j,r⟩
 ·refine(I.hok b u e).stay (λc v a q=>k c v ?_ q) (λ_ q=>q) λ_ _ q=>q
  rcases a with z | z
  ·rw[z];exact g b u e
  ·exact g c _ z
theorem Inv.tok(I:Inv X pins σ H s)(t:Nat):Inv X pins σ H {s with toks:=t}:=I.un (h':=s.heap) (t':=t) Un.refl I.hok
theorem Inv.kept{t':Nat}(I:Inv X pins σ H s)(k:∀b u,s.heap.get? b=some u->h'.get? b=some u):Inv X pins σ H {s with heap:=h',toks:=t' }:=I.un (Un.kept k) (I.hok.kept k)
theorem Inv.laid{a:Addr}{t':Nat}(I:Inv X pins σ H s)(k:∀b u,s.heap.get? b=some u->h'.get? b=some u)(hp:s.heap.objs.size<=a)(new:bM X.prog X.w (ay H a o) h' a o) :
  Inv X pins σ (ay H a o) {s with heap:=h',toks:=t' }:=I.un (Un.laid k hp (I.hok.fresh hp)) (I.hok.laid k hp new)
theorem Inv.write{e:Addr}{t':Nat}(I:Inv X pins σ H s)(mu:IF (H x))(he:e=x\/H e=some (.own x))(k:∀b u,b≠e->s.heap.get? b=some u->h'.get? b=some u)(heo:∃u,h'.get? e=some u)
  (new:bM X.prog X.w (ay H x o) h' x o):Inv X pins σ (ay H x o) {s with heap:=h',toks:=t' }:=I.un (Un.write mu he k heo) (I.hok.write mu he k heo new)
theorem Inv.pins_of{pins':Nv}(I:Inv X pins σ H s)(h:∀p∈pins',s.heap.get? p.1=some p.2/\H p.1=none/\p.1≠X.env.locals/\p.1∉X.fs/\∀v,p.2.data≠.cell v):Inv X pins' σ H s:=
 ⟨I.ok,I.os,I.bare,I.base,I.loc,I.cell,I.free,I.freeC,λp hp=>(MM.mp hp).elim (λz=>I.pin p (List.mem_append_left _ z)) (h p),I.hok,I.len⟩
theorem rL{N:NF}(hN:N.Nodup){i j:Nat}{x:Str}(a:N[i]?=some x)(b:N[j]?=some x):i=j:=by
 obtain⟨h1,e⟩:=My.mp a;obtain⟨h2,c⟩:=My.mp b;exact(List.getElem_inj hN).mp (e.trans c.symm)
theorem tV{i:Nat}{x:Str}{Q:Unit->Shared->Prop}(I:Inv X pins σ H s)(hN:X.N.Nodup)(hi:X.N[i]?=some x)(hx:Loc X.env.scope x)(r:bu v u)
  (h:∀s',Inv X pins (σ.set i (some v)) H s'->(∃a,Heap.SameBut a s.heap s'.heap/\(a=X.env.locals\/X.env.cells.lookup x=some a))->Q () s') (hf:autoParam (X.fn x=true\/X.env.scope.names.lookup x=some .local) zz3._auto_1):wpAny M A (storeName X.env x u) Q E s:=by
 obtain⟨m,hn,hl⟩:=id I.loc;have U:(X.env.scope.kind==.class||(X.env.scope.kind==.module&&X.env.locals != X.env.globals))=false:=by rw[I.ok.kind];rfl
 have T:i<σ.length:=by rw[I.len];exact(My.mp hi).1
 have cne:=I.cne;have l:∀{a:Addr} {O:Heap},(∃o,s.heap.get? a=some o/\H a=none)->Heap.SameBut a s.heap O->kZ X.prog X.w H O:=fun{a O} ha g b ob e=>by
  obtain⟨_,_,C⟩:=ha;refine(I.hok b ob e).stay (λc w' hc q=>(g.2 c ?_).trans q) (λ_ q=>q) λ_ _ q=>q;rintro rfl;rcases hc with rfl | hc
  ·rw[C]at e;cases e
  ·rw[C]at hc;cases hc
 rcases hx with hk | hk
 ·refine wpAny_storeName_local hk hn (λO a1 g=>?_) U
  obtain⟨oL,_,_,a0,_⟩:=id hn;refine h _ ⟨I.ok,I.os,I.bare,⟨λb o e n L hx=>?_,λb o e n L hx=>?_,I.base.free,λb o e hx=>?_,I.base.tups,I.base.frzs,I.base.tbls⟩,⟨_,a1,λj y v' B D e3=>?_⟩,λy c e=>?_,I.free,I.freeC,λp hp=>?_,l ⟨oL,a0,I.free⟩ g,by simpa using I.len⟩ ⟨_,g,.inl rfl⟩
  ·exact(g.2 b (MS (MR (MZ e) I.ok.above))).trans (I.base.keep b o e n L hx)
  ·obtain⟨sl,B⟩:=I.base.slot b o e n L hx
   exact⟨sl,(g.2 b (MS (MR (MZ e) I.ok.above))).trans B⟩
  ·obtain⟨o',B⟩:=I.base.there b o e hx
   exact⟨o',(g.2 b (MS (MR (MZ e) I.ok.above))).trans B⟩
  ·by_cases G:j=i
   ·subst G
    rw[hi]at B;cases B
    rw[M' T]at D;cases D;exact⟨u,r,.inl ⟨hk,by simp⟩⟩
   ·rw[List.getElem?_set_ne (Ne.symm G)]at D
    obtain⟨u',r',q⟩:=hl j y v' B D e3;refine⟨u',r',?_⟩;rcases q with⟨k,e⟩ | ⟨k,c,e,z⟩
    ·refine .inl ⟨k,?_⟩
     have:y≠x:=λe=>G (rL hN B (e▸hi));simp[this,e]
    ·exact .inr ⟨k,c,e,z.sameBut g (cne y c e)⟩
  ·obtain⟨w',z⟩:=I.cell y c e
   exact⟨w',z.sameBut g (cne y c e)⟩
  ·obtain⟨e,n,ne,nf,d⟩:=I.pin p hp
   exact⟨(g.2 p.1 ne).trans e,n,ne,nf,d⟩
 ·have J:X.fn x=true:=by
   rcases hf with z | z
   ·exact z
   ·rw[z]at hk;cases hk
  obtain⟨c,hc⟩:=I.ok.has x (.inl hk);obtain⟨w',z⟩:=I.cell x c hc;refine wpAny_storeName_cell I.ok.kind hk hc z (λO Z g=>?_);obtain⟨oc,S,R⟩:=id z;refine h {s with heap:=O } ⟨I.ok,I.os,I.bare,⟨λb o e n L hx=>?_,λb o e n L hx=>?_,I.base.free,λb o e hx=>?_,I.base.tups,I.base.frzs,I.base.tbls⟩,⟨m,hn.sameBut g (Ne.symm (cne x c hc)),λj y v' B D e3=>?_⟩,λy c' e=>?_,I.free,I.freeC,λp hp=>?_,l ⟨oc,S,I.freeC x c hc⟩ g,by simpa using I.len⟩ ⟨c,g,.inr hc⟩
  ·exact(g.2 b (MS (MR (MZ e) (I.ok.cab x c J hc)))).trans (I.base.keep b o e n L hx)
  ·obtain⟨sl,B⟩:=I.base.slot b o e n L hx
   exact⟨sl,(g.2 b (MS (MR (MZ e) (I.ok.cab x c J hc)))).trans B⟩
  ·obtain⟨o',B⟩:=I.base.there b o e hx
   exact⟨o',(g.2 b (MS (MR (MZ e) (I.ok.cab x c J hc)))).trans B⟩
  ·by_cases G:j=i
   ·subst G
    rw[hi]at B;cases B
    rw[M' T]at D;cases D;exact⟨u,r,.inr ⟨.inl hk,c,hc,Z⟩⟩
   ·rw[List.getElem?_set_ne (Ne.symm G)]at D
    obtain⟨u',r',q⟩:=hl j y v' B D e3;refine⟨u',r',?_⟩;rcases q with q | ⟨k,c',e,z'⟩
    ·exact .inl q
    ·refine .inr ⟨k,c',e,z'.sameBut g ?_⟩
     rintro rfl;exact G (rL hN B (I.ok.inj _ _ _ e hc▸hi))
  ·by_cases Y:c'=c
   ·subst Y;exact⟨_,Z⟩
   ·obtain⟨w2,z2⟩:=I.cell y c' e
    exact⟨w2,z2.sameBut g Y⟩
  ·obtain⟨e,n,ne,nf,d⟩:=I.pin p hp
   refine⟨(g.2 p.1 ?_).trans e,n,ne,nf,d⟩;intro q;rw[q,S]at e;have q':oc=p.2:=q0P e;exact d w' (by rw[<- q'];exact R)
theorem kt{i:Nat}{x:Str}{Q:Unit->Shared->Prop}(I:Inv X pins σ H s)(hN:X.N.Nodup)(hi:X.N[i]?=some x)(hx:Loc X.env.scope x)(r:bu v u)
  (h:∀s',Inv X pins (σ.set i (some v)) H s'->Q () s') (hf:autoParam (X.fn x=true\/X.env.scope.names.lookup x=some .local) zz3._auto_1):wpAny M A (storeName X.env x u) Q E s:=
 tV I hN hi hx r (λs' I' _=>h s' I') hf
theorem Inv.call'{s':Ny}{ch:NA}(I:Inv X pins σ H s)(ho:s'.os=s.os)(u:Un (lS X.stack) ch H H' s.heap s'.heap)(hok:kZ X.prog X.w H' s'.heap)(hg:AllBare s'.gens)
  (hch:∀b∈ch,(b∈X.ex\/X.s₀.heap.objs.size<=b)/\b≠X.env.locals/\(∀x c,X.env.cells.lookup x=some c->c≠b)/\∀p∈X.pn++pins,p.1≠b):Inv X pins σ H' s':=by
 obtain⟨h',g',d',t',a⟩:=s';have e:a=s.os:=ho;subst e;exact I.call (g':=g') (t':=t') (d':=d') u hok hg hch
end
abbrev XK:=Value->Option Addr->Hp->Prop
abbrev St:=List (Option V)
abbrev VK:=V->Hp->Prop
abbrev TE:=St->Hp->VK->Prop
abbrev TT:=St->Hp->(Bool->Hp->Prop)->Prop
abbrev TA:=St->Hp->(List V->Hp->Prop)->Prop
structure iJ where
 nx:St->Hp->Prop
 rt:VK
 bk:St->Hp->Prop:=λ_ _=>False
 ct:St->Hp->Prop:=λ_ _=>False
abbrev TS:=iJ->St->Hp->Prop
inductive EP(X:Cx)(pins:Nv)(σ:St)(Q:VK)(u:Value)(s':Ny):Prop
 |mk (v:V) (H':Hp) (_:Inv X pins σ H' s') (_:bu v u) (_:Q v H')
inductive TP(X:Cx)(pins:Nv)(σ:St)(Q:Bool->Hp->Prop)(b:Bool)(s':Ny):Prop
 |mk (H':Hp) (_:Inv X pins σ H' s') (_:Q b H')
inductive AP(X:Cx)(pins:Nv)(σ:St)(Q:List V->Hp->Prop)(us:Nz)(s':Ny):Prop
 |mk (vs:List V) (H':Hp) (_:Inv X pins σ H' s') (_:bo vs us) (_:Q vs H')
inductive SN(X:Cx)(pins:Nv)(D:St->Hp->Prop)(s':Ny):Prop
 |mk (σ':St) (H':Hp) (_:Inv X pins σ' H' s') (_:D σ' H')
inductive SR(X:Cx)(pins:Nv)(D:V->Hp->Prop)(u:Value)(s':Ny):Prop
 |mk (v:V) (σ':St) (H':Hp) (_:Inv X pins σ' H' s') (_:bu v u) (_:D v H')
def SP(X:Cx)(pins:Nv)(D:iJ)(f:Flow)(s':Ny):Prop:=
 match f with
 | .next=>SN X pins D.nx s'
 | .brk=>SN X pins D.bk s'
 | .cont=>SN X pins D.ct s'
 | .ret u=>SR X pins D.rt u s'
def PE(X:Cx)(e:Expr)(t:TE):Prop:=
 ∀(pins:Nv) (s:Ny) (σ:St) (H:Hp) (Q:VK),Inv X pins σ H s->t σ H Q->wpAny (model X.prog X.w) X.A (eval e X.env) (EP X pins σ Q) X.xe s
def PT(X:Cx)(e:Expr)(t:TT):Prop:=
 ∀(pins:Nv) (s:Ny) (σ:St) (H:Hp) (Q:Bool->Hp->Prop),Inv X pins σ H s->t σ H Q->wpAny (model X.prog X.w) X.A (isTrue e X.env (eval e X.env)) (TP X pins σ Q) X.xe s
def PW(X:Cx)(e:Expr)(t:TT):Prop:=
 ∀(whole:Sem Value) (pins:Nv) (s:Ny) (σ:St) (H:Hp) (Q:Bool->Hp->Prop),Inv X pins σ H s->t σ H Q->wpAny (model X.prog X.w) X.A (isTrue e X.env whole) (TP X pins σ Q) X.xe s
theorem PW.pt{t:TT}(h:PW X e t):PT X e t:=h _
def PA(X:Cx)(es:NK)(t:TA):Prop:=
 ∀(pos:Pos) (pins:Nv) (s:Ny) (σ:St) (H:Hp) (Q:List V->Hp->Prop),Inv X pins σ H s->t σ H Q->wpAny (model X.prog X.w) X.A (spliced (backTo pos (starEach es X.env))) (AP X pins σ Q) X.xe s
def PS(X:Cx)(st:Stmt)(t:TS):Prop:=
 ∀(pins:Nv) (s:Ny) (σ:St) (H:Hp) (D:iJ),Inv X pins σ H s->t D σ H->wpAny (model X.prog X.w) X.A (exec st X.env) (SP X pins D) X.xe s
def wu(X:Cx)(st:List Stmt)(t:TS):Prop:=
 ∀(pins:Nv) (s:Ny) (σ:St) (H:Hp) (D:iJ),Inv X pins σ H s->t D σ H->wpAny (model X.prog X.w) X.A (execs st X.env) (SP X pins D) X.xe s
theorem bV{α:Type}{t:Sem α}{Q Q':α->Shared->Prop}{s:Ny}(h:wpAny M A t Q E s)(hQ:∀a s,Q a s->Q' a s):wpAny M A t Q' E s:=q0S h hQ λ_ _ x=>x
section
variable {X:Cx}
def Cu(i:Nat):TE:=λσ H Q=>∃v,σ[i]?=some (some v)/\Q v H
def tC(v:V):TE:=λ_ H Q=>Q v H
theorem HX{i:Nat}{x:Str}{pos:Pos}(hN:X.N[i]?=some x)(hv:Jj X.env.scope x)(hd:autoParam ((x==("__debug__":Str))=false) zz1._auto_1)(hcd:autoParam ((x==("__classdict__":Str))=false) zz1._auto_1):PE X (.Name x pos) (Cu i):=by
 intro g s σ H Q I h;obtain⟨v,e,h⟩:=h;obtain⟨m,k,o⟩:=I.loc;obtain⟨u,r,l⟩:=o i x v hN e hv;have b:EP X g σ Q u s:=⟨v,H,I,r,h⟩;rcases l with⟨hk,n⟩ | ⟨hk,c,j,a⟩
 ·exact wpAny_Name (wpAny_loadName_local I.ok.kind hk k n b) hd
 ·rcases hk with hk | hk
  ·exact wpAny_Name (wpAny_loadName_cell I.ok.kind hk j a b) hd
  ·exact wpAny_Name (wpAny_loadName_free I.ok.kind hk j a b hcd) hd
theorem ah{i j pos}:PE X (.Constant (.int i) j pos) (tC (.int i)):=λ_ _ _ H _ I h=>wpAny_Constant_int ⟨.int i,H,I.tok _,⟨_,rfl⟩,h⟩
theorem AW{b j pos}:PE X (.Constant (.bool b) j pos) (tC (.bl b)):=λ_ _ _ H _ I h=>Constant_bool ⟨.bl b,H,I,rfl,h⟩
theorem iu{j pos}:PE X (.Constant .none j pos) (tC .non):=λ_ _ _ H _ I h=>Constant_none ⟨.non,H,I,rfl,h⟩
theorem ri{x j pos}:PE X (.Constant (.str x) j pos) (tC (.str x)):=λ_ _ _ H _ I h=>Calls.Constant_str ⟨.str x,H,I.tok _,⟨_,rfl⟩,h⟩
def Gl(X:Cx)(x:Str):Prop:=X.env.kindOf x=some .globalImplicit
theorem gm{pins:Nv}{σ:St}{u:Value}{pos:Pos}{Q:Nt}(I:Inv X pins σ H s)(hg:Gl X x)(hm:X.mg x=some u)(h:Q u s)
  (hd:autoParam ((x==("__debug__":Str))=false) zz1._auto_1):wpAny (model X.prog X.w) X.A (eval (.Name x pos) X.env) Q E s:=
 Calls.Name_function_global I.ok.kind hg (Calls.loadGlobal_global (by rw[I.ok.glob];exact I.mod.glob.keeps I.bk) hm h) hd
theorem fC{pins:Nv}{σ:St}{u:Value}{pos:Pos}{Q:Nt}(I:Inv X pins σ H s)(hg:Gl X x)(hm:X.mg x=none)(hv:bootBuiltins x=some u)(h:Q u s)
  (hn:autoParam (x≠"__name__") zz1._auto_1) (hd:autoParam ((x==("__debug__":Str))=false) zz1._auto_1):wpAny (model X.prog X.w) X.A (eval (.Name x pos) X.env) Q E s:=by
 obtain⟨mb,h1,h2⟩:=I.mod.blt;exact Calls.Name_function_global I.ok.kind hg (Calls.loadGlobal_builtin (by rw[I.ok.glob];exact I.mod.glob.keeps I.bk) hm (by rw[I.ok.blt];exact h1.keeps I.bk) ((h2 x hn).trans hv) h) hd
theorem b_{u:Value}{pos:Pos}(hg:Gl X x)(hm:X.mg x=some u)(r:bu v u)(hd:autoParam ((x==("__debug__":Str))=false) zz1._auto_1):PE X (.Name x pos) (tC v):=
 λ_ _ _ H _ I h=>gm I hg hm ⟨v,H,I,r,h⟩ hd
theorem FQ{u:Value}{pos:Pos}(hg:Gl X x)(hm:X.mg x=none)(hv:bootBuiltins x=some u)(r:bu v u)(hn:autoParam (x≠"__name__") zz1._auto_1)(hd:autoParam ((x==("__debug__":Str))=false) zz1._auto_1):PE X (.Name x pos) (tC v):=
 λ_ _ _ H _ I h=>fC I hg hm hv ⟨v,H,I,r,h⟩ hn hd
variable {a b:Expr}{ta tb:TE}{pos:Pos}
def PC(X:Cx)(op:CmpOp)(a b:Expr)(t:TE):Prop:=
 ∀(pins:Nv) (s:Ny) (σ:St) (H:Hp) (Q:VK),Inv X pins σ H s->t σ H Q ->
  wpAny (model X.prog X.w) X.A (eval a X.env) (λv s₁=>wpAny (model X.prog X.w) X.A (eval b X.env) (λu s₂=>wpAny (model X.prog X.w) X.A (compareOp op v u) (EP X pins σ Q) X.xe s₂) X.xe s₁) X.xe s
theorem EO(b:Expr){op:CmpOp}(h:op≠.In)(h2:op≠.NotIn):behindInMarks op b=false:=by
 have c:(op==CmpOp.In)=false:=by cases op<;>first | rfl | exact q0N rfl h
 have a:(op==CmpOp.NotIn)=false:=by cases op<;>first | rfl | exact q0N rfl h2
 cases b<;>simp[behindInMarks,c,a]
def tB(t:TE):TT:=λσ H Q=>t σ H λx H1=>∃c,x=.bl c/\Q c H1
theorem D7{op:CmpOp}{t:TE}(h:PC X op a b t)(h1:behindInMarks op b=false:=by first | exact EO _ nofun nofun | rfl):PT X (.Compare a [op] [b] pos) (tB t):=by
 intro e s σ H Q I hw;refine wpAny_isTrue_Compare1 (bV (h e s σ H _ I hw) λv s1 h1=>bV h1 λu s2 h2=>bV h2 λc s3 ⟨x,l,k,g,j⟩=>?_) h1;obtain⟨d,rfl,q⟩:=j;cases g;exact wpAny_truthy_bool ⟨l,k,q⟩
variable {tA tB':TT}{cP:NK}
def HR(t u:TT):TT:=λσ H Q=>t σ H λc H1=>if c=true then u σ H1 Q else Q false H1
def Jr(t u:TT):TT:=λσ H Q=>t σ H λc H1=>if c=true then Q true H1 else u σ H1 Q
def GZ(t:TT):TT:=λσ H Q=>t σ H λc H1=>Q (!c) H1
theorem nE(ha:PT X a tA):PW X (.BoolOp .And [a] pos) tA:=by
 intro wh b s σ H Q I h;refine isTrue_and (bV (ha b s σ H Q I h) λc s1 e=>?_);cases c with
 |true=>exact isTrue_and_nil e
 |false=>exact e
theorem fH(ha:PT X a tA):PW X (.BoolOp .Or [a] pos) tA:=by
 intro wh b s σ H Q I h;refine isTrue_or (bV (ha b s σ H Q I h) λc s1 e=>?_);cases c with
 |false=>exact isTrue_or_nil e
 |true=>exact e
theorem l7(ha:PT X a tA)(hb:PW X (.BoolOp .And (b::cP) pos) tB'):PW X (.BoolOp .And (a::b::cP) pos) (HR tA tB'):=by
 intro l e s σ H Q I h;refine isTrue_and (bV (ha e s σ H _ I h) λc m ⟨k,j,g⟩=>?_);cases c with
 |true=>exact hb l e m σ k Q j g
 |false=>exact⟨k,j,g⟩
theorem iO(ha:PT X a tA)(hb:PW X (.BoolOp .Or (b::cP) pos) tB'):PW X (.BoolOp .Or (a::b::cP) pos) (Jr tA tB'):=by
 intro l e s σ H Q I h;refine isTrue_or (bV (ha e s σ H _ I h) λc m ⟨k,j,g⟩=>?_);cases c with
 |true=>exact⟨k,j,g⟩
 |false=>exact hb l e m σ k Q j g
theorem gU(ha:PT X a tA):PT X (.UnaryOp .Not a pos) (GZ tA):=by
 intro b s σ H Q I h;exact isTrue_not (bV (ha b s σ H (λc e=>Q (!c) e) I h) λ_ _ ⟨e,g,q⟩=>⟨e,g,q⟩)
def EY(ta tb:TE):TE:=λσ H Q=>ta σ H λx H1=>∃c,x=.bl c/\if c=true then tb σ H1 Q else Q (.bl false) H1
def DD(ta:TE):TE:=λσ H Q=>ta σ H λx H1=>∃c,x=.bl c/\Q (.bl (!c)) H1
theorem qV{op}{t:TE}(h:PE X a t):PE X (.BoolOp op [a] pos) t:=λpins s σ H Q I hw=>BoolOp_one (h pins s σ H Q I hw)
theorem lY(ha:PE X a ta)(hb:PE X (.BoolOp .And (b::cP) pos) tb):PE X (.BoolOp .And (a::b::cP) pos) (EY ta tb):=by
 intro e s σ H Q I h;refine BoolOp_and (bV (ha e s σ H _ I h) λv l ⟨x,k,j,m,g⟩=>?_);obtain⟨c,rfl,g⟩:=g;cases m;refine wpAny_truthy_bool ?_;cases c with
 |true=>exact hb e l σ k Q j g
 |false=>exact⟨.bl false,k,j,rfl,g⟩
theorem v8(ha:PE X a ta):PE X (.UnaryOp .Not a pos) (DD ta):=by
 intro b s σ H Q I h;refine UnaryOp_ (bV (ha b s σ H _ I h) λv s1 ⟨x,k,j,g,e⟩=>?_);obtain⟨c,rfl,e⟩:=e;cases g;exact not_of (wpAny_truthy_bool ⟨.bl (!c),k,j,rfl,e⟩)
def Jn(t:TT)(ta tb:TE):TE:=λσ H Q=>t σ H λc H1=>if c=true then ta σ H1 Q else tb σ H1 Q
theorem wQ(hc:PT X c tA)(ha:PE X a ta)(hb:PE X b tb):PE X (.IfExp c a b pos) (Jn tA ta tb):=by
 intro e s σ H Q I h;refine wpAny_IfExp (bV (hc e s σ H _ I h) λd g ⟨l,k,j⟩=>?_);cases d with
 |true=>exact ha e g σ l Q k j
 |false=>exact hb e g σ l Q k j
end
def aW(K:Nu)(H:Hp)(a:Addr)(xs:List V):Prop:=
 Rd H a (.lst xs) \/
  ∃(o:Obj) (its:Array Value) (n:Nat),K.lookup a=some o/\o.cls=.type "list"/\o.dict=none/\o.data=.seq its n/\its.size<=sizeLine/\bo xs its.toList
def aZ(K:Nu)(H:Hp)(a:Addr)(xs:List V):Prop:=
 Rd H a (.tup xs) \/
  ∃(o:Obj) (its:Array Value) (n:Nat),K.lookup a=some o/\o.cls=.type "tuple"/\o.data=.seq its n/\its.size<=sizeLine/\bo xs its.toList
def Jv:Value->Option V
 | .none=>some .non
 | .bool b=>some (.bl b)
 | .int i _=>some (.int i)
 | .str x _=>some (.str x)
 | .bytes b _=>some (.byt b)
 | .float b _=>some (.flt b)
 | .ref a=>some (.ref a)
 | .type n=>some (.ty n)
 |_=>none
theorem bu.abs(r:bu x u):Jv u=some x:=by
 cases x with
 |non=>cases r;rfl
 |bl _=>cases r;rfl
 |int _=>obtain⟨t,rfl⟩:=r;rfl
 |str _=>obtain⟨t,rfl⟩:=r;rfl
 |byt _=>obtain⟨t,rfl⟩:=r;rfl
 |flt _=>obtain⟨t,rfl⟩:=r;rfl
 |ref _=>cases r;rfl
 |ty _=>cases r;rfl
theorem bu.inj(r:bu x u)(q:bu y u):x=y:=q0P (r.abs.symm.trans q.abs)
theorem bo.inj:∀{xs ys:List V} {us:Nz},bo xs us->bo ys us->xs=ys
 |_,_,_,.nil,.nil=>rfl
 |_,_,_,.cons r t,.cons r' t'=>by rw[r.inj r',bo.inj t t']
section
variable {X:Cx}{pins:Nv}{σ:St}{H:Hp}{s:Ny}{a:Addr}{xs ys:List V}
theorem aW.of{K:Nu}(h:H a=some (.lst xs)):aW K H a xs:=.inl (.inl h)
theorem aZ.of{K:Nu}(h:H a=some (.tup xs)):aZ K H a xs:=.inl (.inl h)
theorem Inv.list(I:Inv X pins σ H s)(h:aW X.K H a xs):∃its:List Value,bo xs its/\PlainL s.heap a its.toArray/\xs.length<=sizeLine:=by
 rcases h with h | ⟨o,its,n,c,j,g,b,hz,r⟩
 ·obtain⟨z,its,n,r,e⟩:=h.ok I.hok
  exact⟨its,r,⟨_,n,e,rfl,rfl,rfl⟩,z⟩
 ·refine⟨its.toList,r,⟨o,n,I.kIn a o c,j,g,by simpa using b⟩,?_⟩
  have e:=r.length;simp only[Array.length_toList]at e;omega
theorem Inv.tuple(I:Inv X pins σ H s)(h:aZ X.K H a xs):∃its:List Value,bo xs its/\IsTup s.heap a its.toArray/\xs.length<=sizeLine:=by
 rcases h with h | ⟨o,its,n,c,g,b,hz,r⟩
 ·obtain⟨z,its,r,p⟩:=h.ok I.hok
  exact⟨its,r,p,z⟩
 ·refine⟨its.toList,r,⟨o,I.kIn a o c,g,n,by simpa using b⟩,?_⟩
  have e:=r.length;simp only[Array.length_toList]at e;omega
theorem Inv.list_inj(I:Inv X pins σ H s)(h:aW X.K H a xs)(h':aW X.K H a ys):xs=ys:=by
 obtain⟨c,r,⟨o,n,e,_,_,d⟩,_⟩:=I.list h;obtain⟨b,k,⟨o',n',g,_,_,j⟩,_⟩:=I.list h';rw[e]at g;cases g
 rw[d]at j
 injection j with d1 _
 have:c=b:=by simpa using q0O Array.toList d1
 subst this;exact r.inj k
theorem Inv.tuple_inj(I:Inv X pins σ H s)(h:aZ X.K H a xs)(h':aZ X.K H a ys):xs=ys:=by
 obtain⟨c,r,⟨o,e,_,n,d⟩,_⟩:=I.tuple h;obtain⟨b,k,⟨o',g,_,n',j⟩,_⟩:=I.tuple h';rw[e]at g;cases g
 rw[d]at j
 injection j with d1 _
 have:c=b:=by simpa using q0O Array.toList d1
 subst this;exact r.inj k
end
abbrev Cx.wish(X:Cx)(E:Nt):Cx:={X with xe:=E}
abbrev Cx.nox(X:Cx):Cx:=X.wish λ_ _=>False
theorem Cx.Ok.wish{X:Cx}(ok:X.Ok)(E:Nt):(X.wish E).Ok:=
 ⟨ok.mod,ok.kind,ok.glob,ok.blt,ok.above,ok.inj,ok.has,ok.cab,ok.hd,ok.frames,ok.stk,ok.exf,ok.bs,ok.bsz,ok.noex,ok.exfs,ok.funs,ok.frf⟩
theorem Cx.Ok.unwish{X:Cx}(ok:(X.wish E).Ok):X.Ok:=
 ⟨ok.mod,ok.kind,ok.glob,ok.blt,ok.above,ok.inj,ok.has,ok.cab,ok.hd,ok.frames,ok.stk,ok.exf,ok.bs,ok.bsz,ok.noex,ok.exfs,ok.funs,ok.frf⟩
section
variable {X:Cx}{pins:Nv}{σ:St}{H:Hp}{s:Ny}{E:Nt}
theorem Inv.wish(I:Inv X pins σ H s)(E:Nt):Inv (X.wish E) pins σ H s:=⟨I.ok.wish E,I.os,I.bare,I.base,I.loc,I.cell,I.free,I.freeC,I.pin,I.hok,I.len⟩
theorem Inv.unwish(I:Inv (X.wish E) pins σ H s):Inv X pins σ H s:=⟨I.ok.unwish,I.os,I.bare,I.base,I.loc,I.cell,I.free,I.freeC,I.pin,I.hok,I.len⟩
theorem SP.unwish{f:Flow}(h:SP (X.wish E) pins D f s'):SP X pins D f s':=by
 cases f with
 |next=>obtain⟨σ',a,I,q⟩:=h;exact⟨σ',a,I.unwish,q⟩
 |brk=>obtain⟨σ',a,I,q⟩:=h;exact⟨σ',a,I.unwish,q⟩
 |cont=>obtain⟨σ',a,I,q⟩:=h;exact⟨σ',a,I.unwish,q⟩
 |ret u=>obtain⟨v,σ',a,I,r,q⟩:=h;exact⟨v,σ',a,I.unwish,r,q⟩
theorem wu.nox{st:List Stmt}{t:TS}(h:wu X.nox st t):wu X st t:=λpins s σ H D I hw=>
 q0S (h pins s σ H D (I.wish _) hw) (λ_ _ q=>q.unwish) λ_ _ z=>False.elim z
end
section
variable {X:Cx}{st:Stmt}{cP:List Stmt}{t u:TS}{e:Expr}{te:TE}{pos:Pos}
def DT:TS:=λD σ H=>D.nx σ H
def B8(t u:TS):TS:=λD σ H=>t {D with nx:=u D} σ H
theorem aL:wu X [] DT:=λ_ _ σ H _ I h=>wpAny_execs_nil ⟨σ,H,I,h⟩
theorem af(h1:PS X st t)(h2:wu X cP u):wu X (st::cP) (B8 t u):=by
 intro a s σ H D I h;refine wpAny_execs_cons (bV (h1 a s σ H {D with nx:=u D} I h) λf b q=>?_);cases f with
 |next=>
  obtain⟨σ',e,c,q⟩:=q;exact h2 a b σ' e D c q
 |ret v=>exact q
 |brk=>exact q
 |cont=>exact q
theorem ai(h1:PS X st t):wu X [st] t:=by
 intro a s σ H D I h;refine wpAny_execs_cons (bV (h1 a s σ H D I h) λf s1 q=>?_);cases f with
 |next=>exact wpAny_execs_nil q
 |ret v=>exact q
 |brk=>exact q
 |cont=>exact q
def yX:TS:=λD σ H=>D.bk σ H
theorem Eu:PS X (.Break pos) yX:=λ_ _ σ H _ I h=>wpAny_Break ⟨σ,H,I,h⟩
theorem Inv.quiet{pins:Nv}{σ:St}(I:Inv X pins σ H s):interactive X.env=false:=by simp[interactive,I.ok.kind]
def EH(te:TE):TS:=λD σ H=>te σ H λ_ H1=>D.nx σ H1
theorem bH(he:PE X e te)(hs:autoParam (swapsWith e none pos.line X.env=pure false) zz0._auto_1):PS X (.Expr e pos) (EH te):=by
 intro a s σ H D I h;exact wpAny_Expr_any (bV (he a s σ H _ I h) λv s1 ⟨x,g,c,r1,b⟩=>⟨σ,g,c,b⟩) I.quiet hs
def HL(te:TE):TS:=λD σ H=>te σ H D.rt
theorem aF(he:PE X e te):PS X (.Return (some e) pos) (HL te):=by
 intro a s σ H D I h;exact wpAny_Return_some (bV (he a s σ H _ I h) λv s1 ⟨x,j,g,b,c⟩=>⟨x,σ,j,g,b,c⟩)
def EC:TS:=λD _ H=>D.rt .non H
theorem vL:PS X (.Return none pos) EC:=λ_ _ σ H _ I h=>wpAny_Return_none ⟨.non,σ,H,I,rfl,h⟩
def Dl(c:TT)(t u:TS):TS:=λD σ H=>c σ H λb H1=>if b=true then t D σ H1 else u D σ H1
theorem bC{tc:TT}(hc:PT X c tc)(ha:wu X a t)(hb:wu X b u):PS X (.If c a b pos) (Dl tc t u):=by
 intro e s σ H D I h;refine wpAny_If (bV (hc e s σ H _ I h) λd g ⟨l,k,j⟩=>?_);cases d with
 |true=>exact ha e g σ l D k j
 |false=>exact hb e g σ l D k j
end
abbrev TG:=V->St->Hp->(St->Hp->Prop)->Prop
abbrev GU:=List V->St->Hp->(St->Hp->Prop)->Prop
def PG(X:Cx)(target:Expr)(t:TG):Prop:=
 ∀(pins:Nv) (s:Ny) (σ:St) (H:Hp) (v:V) (u:Value) (Q:St->Hp->Prop),Inv X pins σ H s->bu v u->t v σ H Q ->
  wpAny (model X.prog X.w) X.A (assign target X.env u) (λ_ s'=>SN X pins Q s') X.xe s
def IR(X:Cx)(ts:NK)(t:GU):Prop:=
 ∀(pins:Nv) (s:Ny) (σ:St) (H:Hp) (vs:List V) (us:Nz) (Q:St->Hp->Prop),Inv X pins σ H s->bo vs us->t vs σ H Q ->
  wpAny (model X.prog X.w) X.A (assignInOrder ((assignEach ts X.env).map (·.2)) us) (λ_ s'=>SN X pins Q s') X.xe s
section
variable {X:Cx}{pos:Pos}
def lN(i:Nat):TG:=λv σ H Q=>Q (σ.set i (some v)) H
theorem aB{i:Nat}{x:Str}(hN:X.N.Nodup)(hi:X.N[i]?=some x)(hx:Loc X.env.scope x)(hf:autoParam (X.fn x=true\/X.env.scope.names.lookup x=some .local) zz3._auto_1):PG X (.Name x pos) (lN i):=by
 intro pins s σ H v u Q I r h;exact wpAny_assign_Name (kt I hN hi hx r (λs' a=>⟨_,H,a,h⟩) hf)
theorem q02(i:Nat){x:Str}(hN:X.N.Nodup)(hi:autoParam (X.N[i]?=some x) zz0._auto_1)(hx:autoParam (Loc X.env.scope x) zzl._auto_1)(hf:autoParam (X.fn x=true\/X.env.scope.names.lookup x=some .local) zz3._auto_1):PG X (.Name x pos) (lN i):=aB hN hi hx hf
def F7:GU:=λvs σ H Q=>vs=[]/\Q σ H
def AJ(t:TG)(u:GU):GU:=λvs σ H Q=>∃v r,vs=v::r/\t v σ H λσ' H'=>u r σ' H' Q
theorem cY:IR X [] F7:=by
 intro pins s σ H vs us Q I r h;obtain⟨e,h⟩:=h;subst e;cases r;exact assignInOrder_nil ⟨σ,H,I,h⟩
theorem aM{e:Expr}{es:NK}{t:TG}(h1:PG X e t)(h2:IR X es u)
  (hs:autoParam ((assignEach (e::es) X.env).map (·.2)=assign e X.env::(assignEach es X.env).map (·.2)) zz0._auto_1):IR X (e::es) (AJ t u):=by
 intro a s σ H vs us Q I r h;obtain⟨v,vr,g,h⟩:=h;subst g;cases r with
 |cons r rr=>
  rw[hs];refine assignInOrder_cons (bV (h1 a s σ H _ _ _ I r h) λ_ b ⟨σ1,k,j,c⟩=>?_);exact h2 a b σ1 k _ _ Q j rr c
def Ef(K:Nu)(n:Nat)(t:GU):TG:=λv σ H Q=>∃a xs,v=.ref a/\aZ K H a xs/\xs.length=n/\t xs σ H Q
theorem fB{es:NK}{t:GU}{n:Nat}(hc:X.calm=true)(h:IR X es t)
  (hn:autoParam ((assignEach es X.env).length=n) zz0._auto_1) (hst:autoParam ((assignEach es X.env).findIdx? (·.1)=none) zz0._auto_1):PG X (.Tuple es k pos) (Ef X.K n t):=by
 intro c s σ H v u Q I r g;obtain⟨a,l,y,q,w,g⟩:=g;subst y;cases r;obtain⟨its,j,p,hz⟩:=I.tuple q;refine assign_Tuple_tuple (I.ok.hd hc) p (by simp[hn,<- w,j.length]) hst λx m=>?_;have B:Inv X c σ H {s with heap:=x }:=I.kept (t':=s.toks) λb o e=>m b o (MS (MZ e)) e;exact h c _ σ H l _ Q B (by simpa using j) g
def AZ(te:TE)(g:TG):TS:=λD σ H=>te σ H λx H1=>g x σ H1 D.nx
theorem yZ{tg:Expr}{te:TE}(he:PE X e te)(hg:PG X tg g)(hs:autoParam (swapsWithSole [tg] e pos.line X.env=pure false) zz0._auto_1)(hw:autoParam (swappedStores [tg] e X.env=pure none) zz0._auto_1)
  (h1:autoParam ((assignEach [tg] X.env).map (·.2)=[assign tg X.env]) zz0._auto_1):PS X (.Assign [tg] e pos) (AZ te g):=by
 intro a s σ H D I h;refine wpAny_Assign_stores (bV (he a s σ H _ I h) λv b ⟨x,l,k,c,j⟩=>?_) hs hw;rw[h1];exact bV (hg a b σ l x v _ k c j) λ_ s2 q=>q
theorem aD{i:Nat}{x:Str}{te:TE}{pos':Pos}(hN:X.N.Nodup)(hi:X.N[i]?=some x)(hx:Loc X.env.scope x)(he:PE X e te)(hs:autoParam (swapsWith e (some (.Name x pos')) pos.line X.env=pure false) zz0._auto_1)(hf:autoParam (X.fn x=true\/X.env.scope.names.lookup x=some .local) zz3._auto_1) :
  PS X (.Assign [.Name x pos'] e pos) (AZ te (lN i)):=by
 intro a s σ H D I h;refine wpAny_Assign_Name (bV (he a s σ H _ I h) λv s1 ⟨y,k,j,b,c⟩=>?_) hs;exact kt j hN hi hx b (λs2 g=>⟨_,k,g,c⟩) hf
theorem q01(i:Nat){x:Str}{e:Expr}{te:TE}{pos':Pos}(hN:X.N.Nodup)(he:PE X e te)(hi:autoParam (X.N[i]?=some x) zz0._auto_1)(hx:autoParam (Loc X.env.scope x) zzl._auto_1)(hs:autoParam (swapsWith e (some (.Name x pos')) pos.line X.env=pure false) zz0._auto_1)(hf:autoParam (X.fn x=true\/X.env.scope.names.lookup x=some .local) zz3._auto_1):
  PS X (.Assign [.Name x pos'] e pos) (AZ te (lN i)):=aD hN hi hx he hs hf
end
structure It where
 go:Nat->Hp->Prop
 yld:Nat->Hp->V->Hp->Prop
 stop:Nat->Hp->Prop
def pI(X:Cx)(pins:Nv)(H:Hp)(b:Addr):Prop:=
 H b=none/\b≠X.env.locals/\b∉X.fs/\(b∈X.ex\/X.s₀.heap.objs.size<=b)/\(∀x c,X.env.cells.lookup x=some c->c≠b)/\∀p∈X.pn++pins,p.1≠b
theorem Inv.fpOk{pins:Nv}{σ:St}{H':Hp}{b:Addr}(I:Inv X pins σ H s)(hb:s.heap.objs.size<=b)(hn:H' b=none):pI X pins H' b:=by
 refine⟨hn,Nat.ne_of_gt (MR I.lt hb),I.nofs hb,.inr (M6 I.sz hb),λx c e z=>?_,λp a z=>?_⟩
 ·obtain⟨v,q⟩:=I.cell x c e
  exact q0N (MR q.lt (by rw[z];exact hb)) (M7 _)
 ·exact q0N (MR (MZ (I.pin p a).1) (by rw[z];exact hb)) (M7 _)
structure rG(P:NE)(w:NH)(K:Nu)(tg:Expr)(J:It)(fp:NA)(it:Addr)(tn:Nat->Heap->Prop):Prop where
 mem:it∈fp
 obj:∀i h,tn i h->∀b∈fp,∃o,h.get? b=some o/\∀v,o.data≠.cell v
 keep:∀i h h',tn i h->(∀b∈fp,∀o,h.get? b=some o->h'.get? b=some o)->tn i h'
 item:∀(X:Cx),X.prog=P->X.w=w->X.K=K->X.calm=true->∀(i:Nat) (pins:Nv) (s:Ny) (σ:St) (H:Hp) (E:Nt),Inv X pins σ H s->(∀b∈fp,pI X pins H b)->tn i s.heap->J.go i H ->
  wpAny (model P w) X.A (pyNext (.ref it)) (λr s1=>∃u,r=some u /\
   wpAny (model P w) X.A (letOwnedTupleGo tg (.ref it) u) (λ_ s2=>∃x H',Inv X pins σ H' s2/\bu x u/\J.yld i H x H'/\tn (i+1) s2.heap/\∀b∈fp,H' b=none) E s1) E s
 done:∀(X:Cx),X.prog=P->X.w=w->X.K=K->X.calm=true->∀(i:Nat) (pins:Nv) (s:Ny) (σ:St) (H:Hp) (E:Nt),Inv X pins σ H s->(∀b∈fp,pI X pins H b)->tn i s.heap->J.stop i H ->
  wpAny (model P w) X.A (pyNext (.ref it)) (λr s1=>r=none/\Inv X pins σ H s1) E s
 self:∀(A:NG) (i:Nat) (s:Ny) (Q:Nt) (E:Nt),tn i s.heap->Q (.ref it) s->wpAny (model P w) A (pyIter (.ref it)) Q E s
abbrev TI:=St->Hp->(It->Hp->Prop)->Prop
def J_(X:Cx)(pins:Nv)(σ:St)(tg:Expr)(R:It->Hp->Prop)(itv:Value)(s2:Ny):Prop:=
 ∃(it:Addr) (fp:NA) (tn:Nat->Heap->Prop) (J:It) (H':Hp),itv=.ref it/\Inv X pins σ H' s2/\rG X.prog X.w X.K tg J fp it tn/\tn 0 s2.heap/\(∀b∈fp,pI X pins H' b)/\R J H'
def PI(X:Cx)(tg iter:Expr)(wi:TI):Prop:=
 ∀(pins:Nv) (s:Ny) (σ:St) (H:Hp) (R:It->Hp->Prop),Inv X pins σ H s->wi σ H R ->
  wpAny (model X.prog X.w) X.A (eval iter X.env) (λv s1=>wpAny (model X.prog X.w) X.A (pyIter v) (J_ X pins σ tg R) X.xe s1) X.xe s
theorem xS{s:Ny}{tg:Expr}{it:Addr}{u:Value}{o:Obj}{Q:Unit->Shared->Prop}(ho:s.heap.get? it=some o)(hc:o.cls=.type n)(hd:o.data=.fields vs)
  (hn:["enumerate","zip","dict_itemiterator","dict_reverseitemiterator","odict_iterator","itertools.zip_longest","itertools.pairwise"].contains n=false) (hQ:Q () s):wpAny M A (letOwnedTupleGo tg (.ref it) u) Q E s:=by
 unfold letOwnedTupleGo;cases tg<;>first
  |exact q05 hQ
  | (cases u<;>first
    |exact q05 hQ
    | (refine q04 (wpAny_load ho ?_)
       rw[hc,hd];show wpAny M A (if(["enumerate","zip","dict_itemiterator","dict_reverseitemiterator","odict_iterator","itertools.zip_longest","itertools.pairwise"].contains n&&vs[0]?==some (rawInt _))=true then _ else _) Q E s;rw[q06 (by intro h;rw[hn,Bool.false_and]at h;cases h)];exact q05 hQ))
def Fr(K:Nu)(a:Addr):It:=
 ⟨λi H=>∃xs x,aW K H a xs/\xs[i]?=some x,λi H x H'=>H'=H/\∀xs,aW K H a xs->xs[i]?=some x,λi H=>∃xs,aW K H a xs/\xs.length<=i⟩
def GG(K:Nu)(a:Addr):It:=
 ⟨λi H=>∃xs x,aZ K H a xs/\xs[i]?=some x,λi H x H'=>H'=H/\∀xs,aZ K H a xs->xs[i]?=some x,λi H=>∃xs,aZ K H a xs/\xs.length<=i⟩
def CY(lo:Int)(n:Nat):It:=⟨λi _=>i<n,λi H x H'=>H'=H/\x=.int (lo+i),λi _=>n<=i⟩
theorem BQ{K:Nu}{tg:Expr}(a it:Addr):rG P w K tg (Fr K a) [it] it (λi h=>h.IsListIter it a i) where
 mem:=by simp
 obj:=λi h g b l=>by
  have e:b=it:=by simpa using l
  subst e;obtain⟨o,e,c,d⟩:=g;exact⟨o,e,λv z=>by rw[d]at z;cases z⟩
 keep:=λi h n g k=>g.at λo e=>k it (by simp) o e
 item:=by
  intro X C B D R i j s σ H E I hf g hg;subst C B D;obtain⟨S,x,m,y⟩:=hg;obtain⟨r,q,p,Y⟩:=I.list m;obtain⟨u,hu,U⟩:=q.get y;obtain⟨O,M,f2,L,J,G⟩:=hf it (by simp);refine wpAny_pyNext_list_item g p.isList (x:=u) (by simpa using hu) λn st' T=>?_;have I1:Inv X j σ H {s with heap:=n }:=I.turned (t':=s.toks) (λb o l e=>(T.2 b l).trans e) O M L J G;obtain⟨o,e,c,d⟩:=id st';exact⟨u,rfl,xS (s:={s with heap:=n }) e c d nofun ⟨x,H,I1,U,⟨rfl,λys Z=>by rw[I.list_inj Z m];exact y⟩,st',λb l=>(hf b l).1⟩⟩
 done:=by
  intro X C B D R i j s σ H E I hf g hg;subst C B D;obtain⟨S,m,y⟩:=hg;obtain⟨r,q,p,Y⟩:=I.list m;obtain⟨O,M,f2,L,J,G⟩:=hf it (by simp);have hl:=q.length;exact wpAny_pyNext_list_end (I.ok.hd R) g p.isList (by simp;omega) λn eb=>⟨rfl,I.turned (t':=s.toks) (λb o l e=>eb b o l e) O M L J G⟩
 self:=λ_ _ _ _ _ g h=>wpAny_pyIter_listiter g h
theorem zY{K:Nu}{tg:Expr}(a it:Addr):rG P w K tg (GG K a) [it] it (λi h=>h.IsTupleIter it a i) where
 mem:=by simp
 obj:=λi h g b m=>by
  have e:b=it:=by simpa using m
  subst e;obtain⟨o,e,c,d⟩:=g;exact⟨o,e,λv z=>by rw[d]at z;cases z⟩
 keep:=λi h q g k=>g.at λo e=>k it (by simp) o e
 item:=by
  intro X C B D R i j s σ H E I hf g hg;subst C B D;obtain⟨S,x,n,y⟩:=hg;obtain⟨l,r,p,Y⟩:=I.tuple n;obtain⟨u,hu,U⟩:=r.get y;obtain⟨O,M,f2,L,J,G⟩:=hf it (by simp);refine wpAny_pyNext_tuple_item g (show s.heap.IsTuple a l.toArray from p) (x:=u) (by simpa using hu) λq st' T=>?_;have I1:Inv X j σ H {s with heap:=q }:=I.turned (t':=s.toks) (λb o m e=>(T.2 b m).trans e) O M L J G;obtain⟨o,e,c,d⟩:=id st';exact⟨u,rfl,xS (s:={s with heap:=q }) e c d nofun ⟨x,H,I1,U,⟨rfl,λys Z=>by rw[I.tuple_inj Z n];exact y⟩,st',λb m=>(hf b m).1⟩⟩
 done:=by
  intro X C B D R i j s σ H E I hf g hg;subst C B D;obtain⟨S,n,y⟩:=hg;obtain⟨l,r,p,Y⟩:=I.tuple n;obtain⟨O,M,f2,L,J,G⟩:=hf it (by simp);have hl:=r.length;exact wpAny_pyNext_tuple_end (I.ok.hd R) g (show s.heap.IsTuple a l.toArray from p) (by simp;omega) λq eb=>⟨rfl,I.turned (t':=s.toks) (λb o m e=>eb b o m e) O M L J G⟩
 self:=λ_ _ _ _ _ g h=>wpAny_pyIter_tupleiter g h
theorem yW{K:Nu}{tg:Expr}(it:Addr)(lo:Int)(n:Nat):rG P w K tg (CY lo n) [it] it (λi h=>IsRangeIter h it (lo+(i:Nat)*1) ((n:Int)-(i:Nat)) 1) where
 mem:=by simp
 obj:=λi h a b g=>by
  have e:b=it:=by simpa using g
  subst e;exact⟨_,a,λv z=>by
   have D:Data.fields _=Data.cell v:=z;cases D⟩
 keep:=λi h j a k=>k it (by simp) _ a
 item:=by
  intro X p l q m i c s σ H E I hf a hg;subst p l q;obtain⟨B,y,L,x,u,r⟩:=hf it (by simp);have W:=Walks.range (prog:=X.prog) (w:=X.w) (I.ok.hd m) it lo 1 n;refine W.item i s _ _ hg a λv j C J st' G=>?_;obtain⟨t,rfl⟩:=J;have O:Inv X c σ H {s with heap:=j,toks:=C}:=I.turned (λb o g e=>G b o (by simpa using g) e) B y x u r;refine⟨_,rfl,xS (s:={s with heap:=j,toks:=C}) (n:="range_iterator") st' rfl rfl nofun ⟨.int (lo+i),H,O,⟨t,?_⟩,⟨rfl,rfl⟩,st',λb g=>(hf b g).1⟩⟩;rw[Int.mul_one]
 done:=by
  intro X p l q m i c s σ H E I hf a hg;subst p l q;obtain⟨B,y,L,x,u,r⟩:=hf it (by simp);exact wpAny_pyNext_range_end (I.ok.hd m) a (by have:n<=i:=hg;omega) λj M=>⟨rfl,I.turned (t':=s.toks) (λb o g e=>M b o g e) B y x u r⟩
 self:=λ_ _ _ _ _ a h=>wpAny_pyIter_rangeiter a h
section
variable {X:Cx}{tg:Expr}
def EI(K:Nu)(tl:TE):TI:=λσ H R=>tl σ H λx H1=>∃a,x=.ref a/\(∃xs,aW K H1 a xs)/\R (Fr K a) H1
def G7(K:Nu)(tl:TE):TI:=λσ H R=>tl σ H λx H1=>∃a,x=.ref a/\(∃xs,aZ K H1 a xs)/\R (GG K a) H1
theorem cK{tl:TE}(hl:PE X l tl):PI X tg l (EI X.K tl):=by
 intro c s σ H R I h;refine bV (hl c s σ H _ I h) λv g ⟨x,u,j,k,m⟩=>?_;obtain⟨a,e,⟨xs,n⟩,q⟩:=m;subst e;cases k;obtain⟨its,rv,p,hz⟩:=j.list n;refine wpAny_pyIter_list p.isList ?_;refine⟨g.heap.objs.size,[g.heap.objs.size],_,_,u,rfl,j.kept (t':=g.toks) λb o e=>Mz _ e,BQ a _,⟨_,MF _ rfl,rfl,rfl⟩,λb r=>?_,q⟩;have e:b=g.heap.objs.size:=by simpa using r
 subst e;exact j.fpOk (MW _) (j.hok.fresh (MW _))
theorem yI{tl:TE}(hl:PE X l tl):PI X tg l (G7 X.K tl):=by
 intro g s σ H R I h;refine bV (hl g s σ H _ I h) λv c ⟨x,w,j,m,n⟩=>?_;obtain⟨a,e,⟨xs,r⟩,q⟩:=n;subst e;cases m;obtain⟨k,rv,p,hz⟩:=j.tuple r;refine wpAny_pyIter_tuple (show c.heap.IsTuple a k.toArray from p) ?_;refine⟨c.heap.objs.size,[c.heap.objs.size],_,_,w,rfl,j.kept (t':=c.toks) λb o e=>Mz _ e,zY a _,⟨_,MF _ rfl,rfl,rfl⟩,λb u=>?_,q⟩;have e:b=c.heap.objs.size:=by simpa using u
 subst e;exact j.fpOk (MW _) (j.hok.fresh (MW _))
theorem xi{pins:Nv}{σ:St}{s:Ny}{R:It->Hp->Prop}{E:Nt}{lo hi:Int}{t u v:Tok}{tk:Nat}(I:Inv X pins σ H s)(h1:-(2 ^ 62)<=lo)(h2:lo<2 ^ 62)(h3:-(2 ^ 62)<=hi)(h4:hi<2 ^ 62)
  (q:R (CY lo (hi-lo).toNat) H):wpAny (model X.prog X.w) X.A (pyIter (.ref s.heap.objs.size)) (J_ X pins σ tg R) E {s with heap:=s.heap.push {cls:=.type "range",data:=.fields #[.int lo t,.int hi u,.int 1 v]},toks:=tk}:=by
 refine wpAny_pyIter_range (IsRange.new ..) (small_one h1 h2 h3 h4) ?_;have a:Inv X pins σ H {s with heap:=s.heap.push {cls:=.type "range",data:=.fields #[.int lo t,.int hi u,.int 1 v]},toks:=tk}:=I.kept λb o e=>Mz _ e;refine⟨(s.heap.push {cls:=.type "range",data:=.fields #[.int lo t,.int hi u,.int 1 v]}).objs.size,[(s.heap.push {cls:=.type "range",data:=.fields #[.int lo t,.int hi u,.int 1 v]}).objs.size],_,_,H,rfl,
  a.kept (t':=tk) λb o e=>Mz _ e,yW _ lo (hi-lo).toNat,?_,λb c=>?_,q⟩
 ·have j:lo+((0:Nat):Int)*1=lo:=by simp
  have g:(((hi-lo).toNat:Nat):Int)-((0:Nat):Int)=Builtin.Range.rangeSize lo hi 1:=by rw[rangeSize_one];split<;>omega
  show IsRangeIter _ _ (lo+((0:Nat):Int)*1) ((((hi-lo).toNat:Nat):Int)-((0:Nat):Int)) 1;rw[j,g];exact MF _ rfl
 ·have e:b=(s.heap.push {cls:=.type "range",data:=.fields #[.int lo t,.int hi u,.int 1 v]}).objs.size:=by simpa using c
  subst e;exact a.fpOk (MW _) (a.hok.fresh (MW _))
def DM(ta:TA):TI:=λσ H R=>ta σ H λvs H1=>∃j:Int,vs=[.int j]/\-(2 ^ 62)<=j/\j<2 ^ 62/\R (CY 0 j.toNat) H1
def DK(ta:TA):TI:=λσ H R=>ta σ H λvs H1=>∃i j:Int,vs=[.int i,.int j]/\(-(2 ^ 62)<=i/\i<2 ^ 62/\-(2 ^ 62)<=j/\j<2 ^ 62)/\R (CY i (j-i).toNat) H1
theorem eS{a:Expr}{ta:TA}{p pos:Pos}(hg:Gl X "range")(hm:X.mg "range"=none)(ha:PA X [a] ta)(hs:autoParam (starEach [a] X.env=[(false,eval a X.env)]) zz0._auto_1):PI X tg (.Call (.Name "range" p) [a] [] pos) (DM ta):=by
 intro b s σ H R I h;refine Call_ (fC I hg hm boot_range (PyProof.Rows.callWith_type1 (bV (ha pos b s σ H _ I h) λus s1 ⟨vs,H1,l,g,c⟩=>?_) hs rfl));obtain⟨j,e,c,k,q⟩:=c;subst e;cases g with
 |cons r rr=>
  cases rr;obtain⟨t,rfl⟩:=r;exact call_range_1 (xi l ⋯ ⋯ c k (by simpa using q))
theorem kX{a b:Expr}{ta:TA}{p pos:Pos}(hg:Gl X "range")(hm:X.mg "range"=none)(ha:PA X [a,b] ta)(hs:autoParam (starEach [a,b] X.env=[(false,eval a X.env),(false,eval b X.env)]) zz0._auto_1)(hs2:autoParam (starEach [b] X.env=[(false,eval b X.env)]) zz0._auto_1) :
  PI X tg (.Call (.Name "range" p) [a,b] [] pos) (DK ta):=by
 intro c s σ H R I h;refine Call_ (fC I hg hm boot_range (PyProof.Rows.callWith_type1 (bV (ha pos c s σ H _ I h) λus s1 ⟨vs,H1,o,k,g⟩=>?_) (by rw[hs,hs2]) (by rw[hs2];rfl)));obtain⟨i,j,e,⟨g,n,m,l⟩,q⟩:=g;subst e;cases k with
 |cons r rr=>
  cases rr with
  |cons r' rr=>
   cases rr;obtain⟨t,rfl⟩:=r;obtain⟨t',rfl⟩:=r';exact call_range_2 (xi o g n m l q)
def Jz(wi:TI)(g:TG)(tb:TS):TS:=λD σ H=>wi σ H λJ H1=>∃W:Nat->Nat->St->Hp->Prop,(∃m,W 0 m σ H1)/\∀i m σ H,W i m σ H ->
 (J.stop i H/\D.nx σ H)\/(J.go i H/\∃N:St->Hp->Prop,(∀σ' H',N σ' H'->∃m',m'<m/\W (i+1) m' σ' H')/\∀x H',J.yld i H x H'->g x σ H' λσ2 H2=>tb {D with nx:=N,ct:=N,bk:=D.nx} σ2 H2)
def rf(fp:NA)(h:Heap):List (Addr×Obj):=fp.filterMap λb=>(h.get? b).map λo=>(b,o)
theorem i6{fp:NA}{h:Heap}{b:Addr}{o:Obj}(hb:b∈fp)(e:h.get? b=some o):(b,o)∈rf fp h:=List.mem_filterMap.mpr ⟨b,hb,by rw[e];rfl⟩
theorem BN{fp:NA}{p:Addr×Obj}(hp:p∈rf fp h):p.1∈fp/\h.get? p.1=some p.2:=by
 obtain⟨b,a,e⟩:=List.mem_filterMap.mp hp;cases q:h.get? b with
 |none=>rw[q]at e;cases e
 |some o=>
  rw[q]at e;have c:(b,o)=p:=q0P e;subst c;exact⟨a,q⟩
theorem Inv.pinned{pins:Nv}{σ:St}{fp:NA}(I:Inv X pins σ H s)(hf:∀b∈fp,pI X pins H b)(ho:∀b∈fp,∃o,s.heap.get? b=some o/\∀v,o.data≠.cell v):Inv X (pins++rf fp s.heap) σ H s:=
 I.pins_of λp hp=>(MM.mp hp).elim (λz=>I.pin p (q0C _ z)) λz=>by
  obtain⟨hb,e⟩:=BN z;obtain⟨f0,f1,f2,_⟩:=hf p.1 hb;obtain⟨o,e',d⟩:=ho p.1 hb;rw[e]at e';cases e'
  exact⟨e,f0,f1,f2,d⟩
theorem Inv.unpinned{pins pl:Nv}{σ:St}(I:Inv X (pins++pl) σ H s):Inv X pins σ H s:=I.pins_of λp hp=>I.pin p (q0C _ (List.mem_append_left _ hp))
theorem Ho{iter:Expr}{body:List Stmt}{wi:TI}{pos:Pos}(hp:PassesOwn (model X.prog X.w) X.A X.env X.xe)(hc:X.calm=true)(hi:PI X tg iter wi)(hg:PG X tg g)(hb:wu X body tb)
  (hs:autoParam (∀x,foldedSetIterable iter X.env x=pure x) zz4._auto_1):PS X (.For tg iter body [] pos) (Jz wi g tb):=by
 intro a s σ H D I h;refine wpAny_For (bV (hi a s σ H _ I h) λv s1 h1=>bV h1 λitv s2 h2=>?_) hs;obtain⟨it,L,Y,J,H2,e,I2,T,O,f2,W,⟨m0,w0⟩,w⟩:=h2;subst e
 -- what stays true of the iterator's objects through the loop
 have c:∀{H':Hp},(∀b∈L,H' b=none)->∀b∈L,pI X a H' b:=λhn b hb=>⟨hn b hb,(f2 b hb).2⟩;refine codeAny_forLoop_any (λn s'=>∃i σ' H',Inv X a σ' H' s'/\Y i s'.heap/\(∀b∈L,H' b=none)/\W i n σ' H') ?_ m0 ⟨0,σ,H2,I2,O,λb hb=>(f2 b hb).1,w0⟩;rintro n s3 ⟨i,σ3,M,I3,B,G,w3⟩;rcases w i n σ3 M w3 with⟨y,qn⟩ | ⟨go,N,hN,step⟩
 ·refine wpAny_passesOwn hp (bV (T.done X rfl rfl rfl hc i a s3 σ3 M X.xe I3 (c G) B y) λr s4 ⟨hr,I4⟩=>?_)
  subst hr;exact wpAny_execs_nil ⟨σ3,M,I4,qn⟩
 ·refine wpAny_passesOwn hp (bV (T.item X rfl rfl rfl hc i a s3 σ3 M X.xe I3 (c G) B go) λr s4 ⟨u,hr,h4⟩=>?_)
  subst hr;refine wpAny_passesOwn hp (bV h4 λ_ Z ⟨x,H5,I5,r5,y5,q,S⟩=>?_);have U:=I5.pinned (c S) (T.obj _ _ q);refine wpAny_passesOwn hp (bV (hg _ Z σ3 H5 x u _ U r5 (step x H5 y5)) λ_ s6 ⟨σ6,H6,I6,q6⟩=>?_);refine wpAny_passesOwn hp (bV (hb _ s6 σ6 H6 _ I6 q6) λf R p=>?_);have j:∀{σ7:St} {l:Hp},Inv X (a++rf L Z.heap) σ7 l R->N σ7 l->∃m,m<n/\∃i σ' H',Inv X a σ' H' R/\Y i R.heap/\(∀b∈L,H' b=none)/\W i m σ' H':=fun{σ7 l} k C=>by
   obtain⟨m',hm,w7⟩:=hN σ7 l C;refine⟨m',hm,i+1,σ7,l,k.unpinned,T.keep _ _ _ q λb hb o e=>(k.pin (b,o) (q0C _ (q0C _ (i6 hb e)))).1,λb hb=>?_,w7⟩;obtain⟨o,e,d⟩:=T.obj _ _ q b hb;exact(k.pin (b,o) (q0C _ (q0C _ (i6 hb e)))).2.1
  cases f with
  |next=>obtain⟨σ7,l,k,C⟩:=p;exact j k C
  |cont=>obtain⟨σ7,l,k,C⟩:=p;exact j k C
  |brk=>obtain⟨σ7,l,k,p⟩:=p;exact⟨σ7,l,k.unpinned,p⟩
  |ret v=>obtain⟨x7,σ7,l,k,r7,p⟩:=p;exact⟨x7,σ7,l,k.unpinned,r7,p⟩
end
theorem D4{K:Nu}{xs:List V}{g:TG}{tb:TS}{D:iJ}{σ:St}{H:Hp}(Pv:Nat->St->Hp->Prop)(h0:Pv 0 σ H)(hl:∀i σ H,i<=xs.length->Pv i σ H->aW K H a xs)
  (hs:∀i x σ H,xs[i]?=some x->Pv i σ H->g x σ H λσ2 H2=>tb {D with nx:=Pv (i+1),ct:=Pv (i+1),bk:=D.nx} σ2 H2) (hd:∀σ H,Pv xs.length σ H->D.nx σ H) :
  ∃W:Nat->Nat->St->Hp->Prop,(∃m,W 0 m σ H)/\∀i m σ H,W i m σ H ->
   ((Fr K a).stop i H/\D.nx σ H)\/((Fr K a).go i H/\∃N:St->Hp->Prop,(∀σ' H',N σ' H'->∃m',m'<m/\W (i+1) m' σ' H')/\∀x H',(Fr K a).yld i H x H'->g x σ H' λσ2 H2=>tb {D with nx:=N,ct:=N,bk:=D.nx} σ2 H2):=by
 refine⟨λi m σ H=>m=xs.length-i/\i<=xs.length/\Pv i σ H,⟨xs.length,by simp,MX _,h0⟩,?_⟩;rintro i m σ H ⟨rfl,c,p⟩;have q:=hl i σ H c p
 by_cases b:i<xs.length
 ·refine .inr ⟨⟨xs,xs[i],q,by simp[b]⟩,Pv (i+1),λσ' H' p'=>⟨xs.length-(i+1),⋯,rfl,b,p'⟩,λx H' y=>?_⟩
  obtain⟨e,y⟩:=y;subst e;exact hs i x σ _ (y xs q) p
 ·have e:i=xs.length:=by omega
  subst e;exact .inl ⟨⟨xs,q,MW _⟩,hd σ H p⟩
theorem GD{K:Nu}{xs:List V}{g:TG}{tb:TS}{D:iJ}{σ:St}{H:Hp}(Pv:Nat->St->Hp->Prop)(h0:Pv 0 σ H)(hl:∀i σ H,i<=xs.length->Pv i σ H->aZ K H a xs)
  (hs:∀i x σ H,xs[i]?=some x->Pv i σ H->g x σ H λσ2 H2=>tb {D with nx:=Pv (i+1),ct:=Pv (i+1),bk:=D.nx} σ2 H2) (hd:∀σ H,Pv xs.length σ H->D.nx σ H) :
  ∃W:Nat->Nat->St->Hp->Prop,(∃m,W 0 m σ H)/\∀i m σ H,W i m σ H ->
   ((GG K a).stop i H/\D.nx σ H)\/((GG K a).go i H/\∃N:St->Hp->Prop,(∀σ' H',N σ' H'->∃m',m'<m/\W (i+1) m' σ' H')/\∀x H',(GG K a).yld i H x H'->g x σ H' λσ2 H2=>tb {D with nx:=N,ct:=N,bk:=D.nx} σ2 H2):=by
 refine⟨λi m σ H=>m=xs.length-i/\i<=xs.length/\Pv i σ H,⟨xs.length,by simp,MX _,h0⟩,?_⟩;rintro i m σ H ⟨rfl,c,p⟩;have q:=hl i σ H c p
 by_cases b:i<xs.length
 ·refine .inr ⟨⟨xs,xs[i],q,by simp[b]⟩,Pv (i+1),λσ' H' p'=>⟨xs.length-(i+1),⋯,rfl,b,p'⟩,λx H' y=>?_⟩
  obtain⟨e,y⟩:=y;subst e;exact hs i x σ _ (y xs q) p
 ·have e:i=xs.length:=by omega
  subst e;exact .inl ⟨⟨xs,q,MW _⟩,hd σ H p⟩
theorem A1{lo:Int}{n:Nat}{g:TG}{tb:TS}{D:iJ}{σ:St}{H:Hp}(Pv:Nat->St->Hp->Prop)(h0:Pv 0 σ H)
  (hs:∀i σ H,i<n->Pv i σ H->g (.int (lo+i)) σ H λσ2 H2=>tb {D with nx:=Pv (i+1),ct:=Pv (i+1),bk:=D.nx} σ2 H2) (hd:∀σ H,Pv n σ H->D.nx σ H) :
  ∃W:Nat->Nat->St->Hp->Prop,(∃m,W 0 m σ H)/\∀i m σ H,W i m σ H ->
   ((CY lo n).stop i H/\D.nx σ H)\/((CY lo n).go i H/\∃N:St->Hp->Prop,(∀σ' H',N σ' H'->∃m',m'<m/\W (i+1) m' σ' H')/\∀x H',(CY lo n).yld i H x H'->g x σ H' λσ2 H2=>tb {D with nx:=N,ct:=N,bk:=D.nx} σ2 H2):=by
 refine⟨λi m σ H=>m=n-i/\i<=n/\Pv i σ H,⟨n,by simp,MX _,h0⟩,?_⟩;rintro i m σ H ⟨rfl,hi,p⟩
 by_cases a:i<n
 ·refine .inr ⟨a,Pv (i+1),λσ' H' p'=>⟨n-(i+1),⋯,rfl,a,p'⟩,λx H' y=>?_⟩
  obtain⟨e,y⟩:=y;subst e y;exact hs i σ _ a p
 ·have e:i=n:=by omega
  subst e;exact .inl ⟨MW _,hd σ H p⟩
abbrev R2:=V->V->Hp->VK->Prop
def bc(X:Cx)(f:Value->Value->Sem Value)(r:R2):Prop:=
 ∀(pins:Nv) (s:Ny) (σ:St) (H:Hp) (x y:V) (v u:Value) (Q:VK),Inv X pins σ H s->bu x v->bu y u->r x y H Q ->
  wpAny (model X.prog X.w) X.A (f v u) (EP X pins σ Q) X.xe s
def JJ(X:Cx)(f:Value->Sem Value)(r:V->Hp->VK->Prop):Prop:=
 ∀(pins:Nv) (s:Ny) (σ:St) (H:Hp) (x:V) (v:Value) (Q:VK),Inv X pins σ H s->bu x v->r x H Q ->
  wpAny (model X.prog X.w) X.A (f v) (EP X pins σ Q) X.xe s
def g_(X:Cx)(f:Value)(r:List V->Hp->VK->Prop):Prop:=
 ∀(pins:Nv) (s:Ny) (σ:St) (H:Hp) (xs:List V) (us:Nz) (Q:VK),Inv X pins σ H s->bo xs us->r xs H Q ->
  wpAny (model X.prog X.w) X.A (call f us) (EP X pins σ Q) X.xe s
def Ij(r:R2)(ta tb:TE):TE:=λσ H Q=>ta σ H λx H1=>tb σ H1 λy H2=>r x y H2 Q
def Jt(r:V->Hp->VK->Prop)(ta:TE):TE:=λσ H Q=>ta σ H λx H1=>r x H1 Q
def rI(C:Int->Int->Prop)(g:Int->Int->V):R2:=λx y H Q=>∃i j,x=.int i/\y=.int j/\C i j/\Q (g i j) H
def BA(g:Int->Int->V):R2:=λx y H Q=>∃i j,x=.int i/\y=.int j/\Q (g i j) H
def rU(g:Int->V):V->Hp->VK->Prop:=λx H Q=>∃i,x=.int i/\Q (g i) H
section
variable {X:Cx}{a b c:Expr}{ta tb tc:TE}{pos:Pos}
theorem Hu(ha:PE X a ta)(hb:PE X b tb){pins:Nv}{s:Ny}{σ:St}{H:Hp}{R:V->V->Hp->Prop}(I:Inv X pins σ H s)
  (h:ta σ H λx H1=>tb σ H1 λy H2=>R x y H2) {Q:Nt} {f:Value->Value->Sem Value}
  (hf:∀v u s2 x y H2,Inv X pins σ H2 s2->bu x v->bu y u->R x y H2->wpAny (model X.prog X.w) X.A (f v u) Q X.xe s2) :
  wpAny (model X.prog X.w) X.A (eval a X.env) (λv s₁=>wpAny (model X.prog X.w) X.A (eval b X.env) (λu s₂=>wpAny (model X.prog X.w) X.A (f v u) Q X.xe s₂) X.xe s₁) X.xe s:=by
 refine bV (ha pins s σ H _ I h) λv c ⟨x,H1,m,g,k⟩=>?_;refine bV (hb pins c σ H1 _ m k) λu s2 ⟨y,H2,l,e,j⟩=>?_;exact hf v u s2 x y H2 l g e j
theorem au{op:Operator}{r:R2}(ho:bc X (binaryOp op) r)(ha:PE X a ta)(hb:PE X b tb):PE X (.BinOp a op b pos) (Ij r ta tb):=by
 intro c s σ H Q I h;exact wpAny_BinOp (Hu ha hb I h λv u e x y l k j g q=>ho c e σ l x y v u Q k j g q)
theorem AC{op:UnaryOp}{r:V->Hp->VK->Prop}(ho:JJ X (unaryOp op) r)(ha:PE X a ta):PE X (.UnaryOp op a pos) (Jt r ta):=by
 intro b s σ H Q I h;exact UnaryOp_ (bV (ha b s σ H _ I h) λv c ⟨x,k,j,e,g⟩=>ho b c σ k x v Q j e g)
theorem IZ{f:Value->Value->Sem Value}{C:Int->Int->Prop}{g:Int->Int->Int}
  (rule:∀(i j:Int) (t u:Tok) (s:Ny) (Q:Nt) (E:Nt),C i j->Q (.int (g i j) s.toks) {s with toks:=s.toks+1}->wpAny (model X.prog X.w) X.A (f (.int i t) (.int j u)) Q E s) :
  bc X f (rI C λi j=>.int (g i j)):=by
 intro pins s σ H x y v u Q I rx ry h;obtain⟨i,j,rfl,rfl,b,q⟩:=h;obtain⟨t,rfl⟩:=rx;obtain⟨a,rfl⟩:=ry;exact rule i j t a s _ _ b ⟨.int (g i j),H,I.tok _,⟨_,rfl⟩,q⟩
theorem Iu{f:Value->Value->Sem Value}{g:Int->Int->Int}
  (rule:∀(i j:Int) (t u:Tok) (s:Ny) (Q:Nt) (E:Nt),Q (.int (g i j) s.toks) {s with toks:=s.toks+1}->wpAny (model X.prog X.w) X.A (f (.int i t) (.int j u)) Q E s) :
  bc X f (BA λi j=>.int (g i j)):=by
 intro pins s σ H x y v u Q I rx ry h;obtain⟨i,j,rfl,rfl,q⟩:=h;obtain⟨t,rfl⟩:=rx;obtain⟨a,rfl⟩:=ry;exact rule i j t a s _ _ ⟨.int (g i j),H,I.tok _,⟨_,rfl⟩,q⟩
theorem FF{f:Value->Value->Sem Value}{g:Int->Int->Bool}
  (rule:∀(i j:Int) (t u:Tok) (s:Ny) (Q:Nt) (E:Nt),Q (.bool (g i j)) s->wpAny (model X.prog X.w) X.A (f (.int i t) (.int j u)) Q E s) :
  bc X f (BA λi j=>.bl (g i j)):=by
 intro pins s σ H x y v u Q I rx ry h;obtain⟨i,j,rfl,rfl,q⟩:=h;obtain⟨t,rfl⟩:=rx;obtain⟨a,rfl⟩:=ry;exact rule i j t a s _ _ ⟨.bl (g i j),H,I,rfl,q⟩
def ID(i j:Int):Prop:=0<=j/\j<=1000000/\i.natAbs<2 ^ 64
def C5(i j:Int):Prop:=(-(2 ^ 64)<i/\i<2 ^ 64)\/(-(2 ^ 64)<j/\j<2 ^ 64)
theorem C5.ok{i:Int}(h:C5 i j):IntMulOk i j:=by
 rcases h with⟨h1,h2⟩ | ⟨h1,h2⟩
 ·exact .of_left (intBits_le_64 h1 h2)
 ·exact .of_right (intBits_le_64 h1 h2)
theorem bF:bc X (binaryOp .Add) (BA λi j=>.int (i+j)):=Iu λ_ _ _ _ _ _ _ q=>add_int q
theorem cX:bc X (binaryOp .Sub) (BA λi j=>.int (i-j)):=Iu λ_ _ _ _ _ _ _ q=>sub_int q
theorem fA:bc X (binaryOp .Mult) (rI C5 λi j=>.int (i*j)):=IZ λ_ _ _ _ _ _ _ hc q=>mul_int q hc.ok
theorem br:bc X (binaryOp .Mod) (rI (λ_ j=>0<j) λi j=>.int (i%j)):=IZ λi j _ _ _ _ _ hc q=>by
 have h1:(0:Int)<j:=hc;exact mod_int' ⋯ (by rw[Int.fmod_eq_emod_of_nonneg i ⋯];exact q)
theorem D':bc X (binaryOp .Pow) (rI ID λi j=>.int (i ^ j.toNat)):=IZ λ_ _ _ _ _ _ _ hc q=>pow_int_small hc.1 hc.2.1 hc.2.2 q
theorem KA{f:Value->Sem Value}{g:Int->Int}
  (rule:∀(i:Int) (t:Tok) (s:Ny) (Q:Nt) (E:Nt),Q (.int (g i) s.toks) {s with toks:=s.toks+1}->wpAny (model X.prog X.w) X.A (f (.int i t)) Q E s) :
  JJ X f (rU λi=>.int (g i)):=by
 intro pins s σ H x v Q I rx h;obtain⟨i,rfl,q⟩:=h;obtain⟨t,rfl⟩:=rx;exact rule i t s _ _ ⟨.int (g i),H,I.tok _,⟨_,rfl⟩,q⟩
theorem vE:JJ X (unaryOp .USub) (rU λi=>.int (-i)):=KA λ_ _ _ _ _ q=>neg_int q
end
def FE:V->V->Bool
 | .non,.non=>true | .non,.int _=>true | .int _,.non=>true | .non,.bl _=>true | .bl _,.non=>true | .non,.str _=>true | .str _,.non=>true
 | .int _,.int _=>true | .bl _,.bl _=>true | .str _,.str _=>true | .byt _,.byt _=>true
 | .int _,.str _=>true | .str _,.int _=>true | .bl _,.str _=>true | .str _,.bl _=>true
 |_,_=>false
def JF:R2:=λx y H Q=>FE x y=true/\Q (.bl (decide (x=y))) H
def JK:R2:=λx y H Q=>FE x y=true/\Q (.bl (!decide (x=y))) H
theorem Ao{i j:Int}:decide (V.int i=V.int j)=(i==j):=by
 rw[Bool.eq_iff_iff];simp
theorem Dw{i:Bool}:decide (V.bl i=V.bl j)=(i==j):=by
 rw[Bool.eq_iff_iff];simp
theorem Ap{i:Str}:decide (V.str i=V.str j)=(i==j):=by
 rw[Bool.eq_iff_iff];simp
theorem Ai{i:Array UInt8}:decide (V.byt i=V.byt j)=(i.toList==j.toList):=by
 rw[Bool.eq_iff_iff];cases i;cases j;simp
section
variable {X:Cx}{a b c:Expr}{ta tb tc:TE}{pos:Pos}
theorem bB{pins:Nv}{σ:St}{Q:VK}{k':Bool}(I:Inv X pins σ H s)(q:Q (.bl k) H)(e:k=k'):EP X pins σ Q (.bool k') s:=by
 subst e;exact⟨.bl k,H,I,rfl,q⟩
theorem fq:bc X (compareOp .Eq) JF:=by
 intro pins s σ H x y v u Q I rx ry h;obtain⟨b,q⟩:=h;cases x with
 |non=>
  cases rx;cases y with
  |non=>cases ry;exact PySem.EqNone.eq_none_none (bB I q (by simp))
  |bl j=>cases ry;exact PySem.EqNone.eq_none_bool (bB I q (by simp))
  |int j=>obtain⟨a,rfl⟩:=ry;exact PySem.EqNone.eq_none_int (bB I q (by simp))
  |str j=>obtain⟨a,rfl⟩:=ry;exact PySem.EqNone.eq_none_str (bB I q (by simp))
  |_=>exact q0N (show false=true from b) MY
 |bl i=>
  cases rx;cases y with
  |non=>cases ry;exact PySem.EqNone.eq_bool_none (bB I q (by simp))
  |bl j=>cases ry;exact eq_bool (bB I q Dw)
  |str j=>obtain⟨a,rfl⟩:=ry;exact PySem.EqMixed.eq_bool_str (bB I q (by simp))
  |_=>exact q0N (show false=true from b) MY
 |int i=>
  obtain⟨t,rfl⟩:=rx;cases y with
  |non=>cases ry;exact PySem.EqNone.eq_int_none (bB I q (by simp))
  |int j=>obtain⟨a,rfl⟩:=ry;exact eq_int (bB I q Ao)
  |str j=>obtain⟨a,rfl⟩:=ry;exact PySem.EqMixed.eq_int_str (bB I q (by simp))
  |_=>exact q0N (show false=true from b) MY
 |str i=>
  obtain⟨t,rfl⟩:=rx;cases y with
  |non=>cases ry;exact PySem.EqNone.eq_str_none (bB I q (by simp))
  |bl j=>cases ry;exact PySem.EqMixed.eq_str_bool (bB I q (by simp))
  |int j=>obtain⟨a,rfl⟩:=ry;exact PySem.EqMixed.eq_str_int (bB I q (by simp))
  |str j=>obtain⟨a,rfl⟩:=ry;exact eq_str (bB I q Ap)
  |_=>exact q0N (show false=true from b) MY
 |byt i=>
  obtain⟨t,rfl⟩:=rx;cases y with
  |byt j=>obtain⟨a,rfl⟩:=ry;exact PySem.W.eq_bytes (bB I q Ai)
  |_=>exact q0N (show false=true from b) MY
 |_=>cases y<;>exact q0N (show false=true from b) MY
theorem wK:bc X (compareOp .NotEq) JK:=by
 intro pins s σ H x y v u Q I rx ry h;obtain⟨b,q⟩:=h;cases x with
 |non=>
  cases rx;cases y with
  |non=>cases ry;exact PySem.EqNone.ne_none_none (bB I q (by simp))
  |bl j=>cases ry;exact PySem.EqNone.ne_none_bool (bB I q (by simp))
  |int j=>obtain⟨a,rfl⟩:=ry;exact PySem.EqNone.ne_none_int (bB I q (by simp))
  |str j=>obtain⟨a,rfl⟩:=ry;exact PySem.EqNone.ne_none_str (bB I q (by simp))
  |_=>exact q0N (show false=true from b) MY
 |bl i=>
  cases rx;cases y with
  |non=>cases ry;exact PySem.EqNone.ne_bool_none (bB I q (by simp))
  |bl j=>cases ry;exact ne_bool (bB I q (q0O not Dw))
  |str j=>obtain⟨a,rfl⟩:=ry;exact PySem.EqMixed.ne_bool_str (bB I q (by simp))
  |_=>exact q0N (show false=true from b) MY
 |int i=>
  obtain⟨t,rfl⟩:=rx;cases y with
  |non=>cases ry;exact PySem.EqNone.ne_int_none (bB I q (by simp))
  |int j=>obtain⟨a,rfl⟩:=ry;exact ne_int (bB I q (q0O not Ao))
  |str j=>obtain⟨a,rfl⟩:=ry;exact PySem.EqMixed.ne_int_str (bB I q (by simp))
  |_=>exact q0N (show false=true from b) MY
 |str i=>
  obtain⟨t,rfl⟩:=rx;cases y with
  |non=>cases ry;exact PySem.EqNone.ne_str_none (bB I q (by simp))
  |bl j=>cases ry;exact PySem.EqMixed.ne_str_bool (bB I q (by simp))
  |int j=>obtain⟨a,rfl⟩:=ry;exact PySem.EqMixed.ne_str_int (bB I q (by simp))
  |str j=>obtain⟨a,rfl⟩:=ry;exact ne_str (bB I q (q0O not Ap))
  |_=>exact q0N (show false=true from b) MY
 |byt i=>
  obtain⟨t,rfl⟩:=rx;cases y with
  |byt j=>obtain⟨a,rfl⟩:=ry;exact PySem.W.ne_bytes (bB I q (q0O not Ai))
  |_=>exact q0N (show false=true from b) MY
 |_=>cases y<;>exact q0N (show false=true from b) MY
theorem tS:bc X (compareOp .Lt) (BA λi j=>.bl (decide (i<j))):=FF λ_ _ _ _ _ _ _ q=>lt_int q
theorem pi:bc X (compareOp .LtE) (BA λi j=>.bl (decide (i<=j))):=FF λ_ _ _ _ _ _ _ q=>le_int q
theorem jx:bc X (compareOp .Gt) (BA λi j=>.bl (decide (j<i))):=FF λ_ _ _ _ _ _ _ q=>gt_int q
theorem GM:bc X (compareOp .GtE) (BA λi j=>.bl (decide (j<=i))):=FF λ_ _ _ _ _ _ _ q=>ge_int q
theorem Bk:bc X (compareOp .In) (λx y H Q=>∃i j,x=.str i/\y=.str j/\Q (.bl (!(Builtin.Str.occurrences j i 0 j.length 1).isEmpty)) H):=by
 intro pins s σ H x y v u Q I rx ry h;obtain⟨i,j,rfl,rfl,q⟩:=h;obtain⟨t,rfl⟩:=rx;obtain⟨t',rfl⟩:=ry;exact in_str (bB I q rfl)
theorem Ia:bc X (compareOp .Is) (λx y H Q=>y=.non/\Q (.bl (decide (x=.non))) H):=by
 intro pins s σ H x y v u Q I rx ry h;obtain⟨rfl,q⟩:=h;cases ry;refine is_none_gen (bB I q ?_);cases x<;>first
  | (cases rx;rfl)
  | (obtain⟨t,rfl⟩:=rx;rfl)
theorem v4:bc X (compareOp .IsNot) (λx y H Q=>y=.non/\Q (.bl (!decide (x=.non))) H):=by
 intro pins s σ H x y v u Q I rx ry h;obtain⟨rfl,q⟩:=h;cases ry;refine isnot_none_gen (bB I q ?_);cases x<;>first
  | (cases rx;rfl)
  | (obtain⟨t,rfl⟩:=rx;rfl)
theorem uQ:bc X (compareOp .NotIn) (λx y H Q=>∃i j,x=.str i/\y=.str j/\Q (.bl (!(!(Builtin.Str.occurrences j i 0 j.length 1).isEmpty))) H):=by
 intro pins s σ H x y v u Q I rx ry h;obtain⟨i,j,rfl,rfl,q⟩:=h;obtain⟨t,rfl⟩:=rx;obtain⟨t',rfl⟩:=ry;exact notIn_str (bB I q rfl)
theorem aN(b:Expr){op:CmpOp}(h:autoParam (op≠.In) zz1._auto_1)(h2:autoParam (op≠.NotIn) zz1._auto_1):behindInMarks op b=false:=by
 have c:(op==CmpOp.In)=false:=by cases op<;>first | rfl | exact q0N rfl h
 have a:(op==CmpOp.NotIn)=false:=by cases op<;>first | rfl | exact q0N rfl h2
 cases b<;>simp[behindInMarks,c,a]
theorem kK{op:CmpOp}{r:R2}(ho:bc X (compareOp op) r)(ha:PE X a ta)(hb:PE X b tb)(hm:behindInMarks op b=false):PE X (.Compare a [op] [b] pos) (Ij r ta tb):=by
 intro c s σ H Q I h;exact wpAny_Compare1 (Hu ha hb I h λv u e x y l k j g q=>ho c e σ l x y v u Q k j g q) hm
def w4(t:TE):TT:=λσ H Q=>t σ H λx H'=>∃k,x=.bl k/\Q k H'
theorem aK{op:CmpOp}{r:R2}(ho:bc X (compareOp op) r)(ha:PE X a ta)(hb:PE X b tb)(hm:behindInMarks op b=false):PT X (.Compare a [op] [b] pos) (w4 (Ij r ta tb)):=by
 intro g s σ H Q I h;refine wpAny_isTrue_Compare1 (bV (ha g s σ H _ I h) λv l ⟨x,L,D,o,w⟩=>bV (hb g l σ L _ D w) λu j ⟨y,J,C,n,q⟩=>
  bV (ho g j σ J x y v u _ C o n q) λc s3 ⟨z,G,B,m,k,e,p⟩=>?_) hm
 subst e;cases m;exact wpAny_truthy_bool ⟨G,B,p⟩
def vU(r r':R2)(ta tb tc:TE):TE:=λσ H Q=>ta σ H λx H1=>tb σ H1 λy H2=>r x y H2 λz H3=>∃k,z=.bl k /\
 (if k=true then tc σ H3 λw' H4=>r' y w' H4 Q else Q (.bl false) H3)
theorem wz{op op':CmpOp}{r r':R2}(ho:bc X (compareOp op) r)(ho':bc X (compareOp op') r')(ha:PE X a ta)(hb:PE X b tb)(hc:PE X c tc)
  (hm:autoParam (lastMarks [op,op'] [b,c]=false) zz5._auto_1):PE X (.Compare a [op,op'] [b,c] pos) (vU r r' ta tb tc):=by
 intro g s σ H Q I h;refine Compare_chain (bV (ha g s σ H _ I h) λv B ⟨x,Y,S,G,M⟩=>chain_link (bV (hb g B σ Y _ S M) λu w ⟨y,U,R,j,L⟩=>
  bV (ho g w σ U x y v u _ R G j L) λd q ⟨z,n,m,D,k,e,l⟩=>?_)) hm
 subst e;cases D;refine wpAny_truthy_bool ?_;cases k with
 |false=>exact ite_ff ⟨.bl false,n,m,rfl,l⟩
 |true=>exact ite_tt (chain_last (bV (hc g q σ n _ m l) λw' p ⟨o,T,O,C,J⟩=>ho' g p σ T y o u w' Q O j C J))
theorem Eo{op op':CmpOp}{r r':R2}(ho:bc X (compareOp op) r)(ho':bc X (compareOp op') r')(ha:PE X a ta)(hb:PE X b tb)(hc:PE X c tc)
  (hm:autoParam (lastMarks [op,op'] [b,c]=false) zz5._auto_1):PT X (.Compare a [op,op'] [b,c] pos) (w4 (vU r r' ta tb tc)):=by
 intro g s σ H Q I h;refine isTrue_chain (bV (ha g s σ H _ I h) λv B ⟨x,H1,I1,J,R⟩=>test_link (bV (hb g B σ H1 _ I1 R) λu w ⟨y,H2,I2,j,O⟩=>
  bV (ho g w σ H2 x y v u _ I2 J j O) λd q ⟨z,n,m,G,k,e,l⟩=>?_)) hm
 subst e;cases G;refine wpAny_truthy_bool ?_;cases k with
 |false=>
  obtain⟨k',U,S⟩:=l;cases U;exact ite_ff ⟨n,m,S⟩
 |true=>
  refine ite_tt (test_last (bV (hc g q σ n _ m l) λw' p ⟨o,H4,Z,D,M⟩=>bV (ho' g p σ H4 y o u w' _ Z j D M) λd' s5 ⟨z2,H5,Y,C,k2,T,L⟩=>?_));subst T;cases C;exact wpAny_truthy_bool ⟨H5,Y,L⟩
theorem qh:(sizeLine:Nat)<2 ^ 63:=by rw[q0R];decide
theorem je:bc X (binaryOp .Add) (λx y H Q=>∃i j,x=.str i/\y=.str j/\i.length+j.length<=sizeLine/\Q (.str (i++j)) H):=by
 intro pins s σ H x y v u Q I rx ry h;obtain⟨i,j,rfl,rfl,b,q⟩:=h;obtain⟨t,rfl⟩:=rx;obtain⟨a,rfl⟩:=ry;exact add_str (λa tk=>⟨.str (i++j),H,I.tok _,⟨_,rfl⟩,q⟩) b
theorem xj{x:V}{us:Nz}(r:bo [x] us):∃u,us=[u]/\bu x u:=by
 cases r with
 |cons r1 r2=>cases r2;exact⟨_,rfl,r1⟩
theorem IX{x y:V}{us:Nz}(r:bo [x,y] us):∃u w',us=[u,w']/\bu x u/\bu y w':=by
 cases r with
 |cons r1 r2=>
  cases r2 with
  |cons r3 r4=>cases r4;exact⟨_,_,rfl,r1,r3⟩
end
structure zL(h:Heap)(x dx C:Addr)(mA:NC):Prop where
 obj:h.get? x=some (PySem.W.instObj C dx)
 ns:h.Ns1 dx mA
 ne:dx≠x
set_option tactic.hygienic true in
theorem nG{h:Heap}{mA:NC}(n:h.Ns1 dx mA):∃od,h.get? dx=some od/\∀name,PySem.W.lookIn name od=some (mA name):=by
 obtain⟨o,es,ep,ho,hd,hk,_,hm⟩:=n;refine⟨o,ho,λname=>?_⟩;have e:=hm name;unfold nsFind findBy at e;rw[<- Array.find?_toList]at e;unfold PySem.W.lookIn;rw[hd];dsimp only
 split
 ·rename_i y q
  rw[q]at e;exact q0O some e
 ·rename_i q
  rw[q]at e;have a:es.toList.any (·.refKey)=false:=by
   rw[List.any_eq_false];intro y hy;obtain⟨z,t,hkey⟩:=hk y (Array.mem_toList_iff.mp hy);simp[DictEntry.refKey,hkey]
  have a':¬ es.toList.any (·.refKey)=true:=by rw[a];exact MY
  rw[q06 a'];exact q0O some e
theorem zL.look{mA:NC}(I:zL h x dx C mA):∃od,PySem.W.InstAt h x (PySem.W.instObj C dx) C (some od)/\∀name,PySem.W.lookIn name od=some (mA name):=
 let ⟨od,ho,hl⟩:=nG I.ns
 ⟨od,⟨I.obj,rfl,rfl,ho⟩,hl⟩
section
variable {prog:NE}{w:NH}{A:NG}{E:Nt}{s:Ny}{K:Nu}{x dx C f:Addr}{mA:NC}{name:Str}{v:Value}
theorem FR{expr:Bool}{Q:Nt}(X:K.In s.heap)(I:zL s.heap x dx C mA)(hg:PySem.W.plainGet K C name=true)(hh:PySem.W.hasDictIn K C=true)
  (ha:PySem.W.findIn K (.ref C) name=some none) (hv:mA name=some v) (hv':PySem.W.handedIn v=true) (h:Q v {s with toks:=s.toks+1}) :
  wpAny (model prog w) A (getAttr (.ref x) name expr) Q E s:=by
 obtain⟨od,J,a⟩:=I.look;exact PySem.W.get_value X J (PySem.W.plainGet_of hg).1 (PySem.W.findObj_own hh ha rfl (by rw[a,hv])) hv' h
theorem C7{pl:Sem Bool}{Q:Value×List Value->Shared->Prop}(X:K.In s.heap)(I:zL s.heap x dx C mA)(hg:PySem.W.plainGet K C name=true)
  (hf:PySem.W.findIn K (.ref C) name=some (some (.ref f))) (ht:PySem.W.isFn K (.ref f)=true) (hv:mA name=none) (h:Q (.ref f,[.ref x]) s) :
  wpAny (model prog w) A (getMethod (.ref x) name pl) Q E s:=by
 obtain⟨a,J,b⟩:=I.look;exact PySem.W.method_fn X J (PySem.W.plainGet_of hg).1 (PySem.W.plainGet_of hg).2 hf (beq_iff_eq.mp ht) (by show(PySem.W.lookIn name a).map (·.isSome)=some false;rw[b,hv];rfl) h
theorem Gs{Q:Unit->Shared->Prop}(X:K.In s.heap)(I:zL s.heap x dx C mA)
  (hs:PySem.W.findIn K (.ref C) "__setattr__"=some (some (.builtin "object.__setattr__"))) (hp:PySem.W.plainOver K C=true) (ht:PySem.W.takerIn K C name=some none) (hh:PySem.W.hasDictIn K C=true)
  (hw:PySem.Within mA ns) (hsz:ns.length<=sizeLine)
  (h:∀h',zL h' x dx C (λy=>if y=name then some v else mA y)->Heap.SameBut dx s.heap h'->Q () {s with heap:=h',toks:=s.toks+2}) :
  wpAny (model prog w) A (setAttr (.ref x) name v) Q E s:=by
 obtain⟨od,J,hl⟩:=I.look;refine PySem.W.set_plain X J hs (PySem.W.osa_open (s:={s with toks:=s.toks+1}) (r:=none) X J hp ht λb=>?_);obtain⟨cd,n,k⟩:=PySem.W.any_some hh;have m:s.heap.get? x=some ⟨.ref C,some dx,.plain,#[]⟩:=I.obj;refine q04 (q05 (q04 (q04 (wpAny_loadPart m (q04 (PySem.W.Looks.here (s:={s with toks:=s.toks+1}) (PySem.W.looks_clsIn X n) ?_))))));rw[k];refine q05 (a:=some dx) (q04 (q05 (q04 ?_)));refine wpAny_nsSet1 (s:={s with toks:=s.toks+1}) I.ns λh' e c=>?_;obtain⟨oD,esD,epD,g,j,l⟩:=e.count (PySem.Within.cons name v hw);refine q04 (wpAny_lookBehind g (by rw[j];exact pastItsLine_dict (M6 l (by rw[MK];omega))) ?_);exact q05 (h _ ⟨(c.2 _ (Ne.symm I.ne)).trans I.obj,e,I.ne⟩ c)
theorem ES{R:Result->Shared->Prop}{vs:Nz}{kw:List (Str×Value)}(X:K.In s.heap)(hm:PySem.W.makesIn K C=true)
  (hi:PySem.W.findIn K (.ref C) "__init__"=some (some (.ref f))) (hf:PySem.W.typeIn K (.ref f)=some (.type "function"))
  (h:codeAny (model prog w) (A.under (.builtin "type.__call__" ⟨.ref C::vs,kw⟩)) (.call (.ref f) ⟨.ref (s.heap.objs.size+1)::vs,kw⟩) (PySem.W.InitBack (s.heap.objs.size+1) R)
   {s with heap:=(s.heap.push PySem.W.emptyDict).push (PySem.W.instObj C s.heap.objs.size)}) :
  codeAny (model prog w) A (.call (.ref C) ⟨vs,kw⟩) R s:=by
 obtain⟨hh,g,d,t,os⟩:=s;exact PySem.W.make_core (PySem.W.makes_of X hm) (PySem.W.looks_findIn X hi) (λa=>PySem.W.bind_fn X a hf) (.inl rfl) h
end
def cU(f:Str)(v:V):List (Str×V)->List (Str×V)
 | []=>[(f,v)]
 | (g,x)::r=>if g=f then(g,v)::r else(g,x)::cU f v r
theorem oW(f g:Str)(v:V):∀fs:List (Str×V),(cU f v fs).lookup g=if g=f then some v else fs.lookup g
 | []=>by
  show List.lookup g [(f,v)]=_
  by_cases h:g=f
  ·have hb:(g==f)=true:=beq_iff_eq.mpr h
   simp only[List.lookup,hb,q07 h]
  ·have hb:(g==f)=false:=beq_eq_false_iff_ne.mpr h
   simp only[List.lookup,hb,q06 h]
 | (k,x)::r=>by
  have ih:=oW f g v r;rw[show cU f v ((k,x)::r)=(if k=f then(k,v)::r else(k,x)::cU f v r) from rfl]
  by_cases hk:k=f
  ·rw[q07 hk]
   by_cases h:g=k
   ·have hb:(g==k)=true:=beq_iff_eq.mpr h
    simp only[List.lookup,hb,q07 (h.trans hk)]
   ·have hb:(g==k)=false:=beq_eq_false_iff_ne.mpr h
    simp only[List.lookup,hb,q06 (λe:g=f=>h (e.trans hk.symm))]
  ·rw[q06 hk]
   by_cases h:g=k
   ·have hb:(g==k)=true:=beq_iff_eq.mpr h
    simp only[List.lookup,hb,q06 (λe:g=f=>hk (h.symm.trans e))]
   ·have hb:(g==k)=false:=beq_eq_false_iff_ne.mpr h
    simp only[List.lookup,hb];exact ih
theorem n6(f:Str)(v:V):∀fs:List (Str×V),f∈(cU f v fs).map (·.1)/\∀g,g∈fs.map (·.1)->g∈(cU f v fs).map (·.1)
 | []=>⟨by simp[cU],λg h=>by simp at h⟩
 | (k,x)::r=>by
  obtain⟨i1,i2⟩:=n6 f v r;rw[show cU f v ((k,x)::r)=(if k=f then(k,v)::r else(k,x)::cU f v r) from rfl]
  by_cases hk:k=f
  ·rw[q07 hk]
   subst hk;exact⟨by simp,λg h=>by simpa using h⟩
  ·rw[q06 hk]
   refine⟨?_,λg h=>?_⟩
   ·rw[M5]
    exact MP _ i1
   ·rw[M5]at h ⊢
    rcases MO.mp h with e | e
    ·exact MO.mpr (.inl e)
    ·exact MP _ (i2 g e)
theorem dw(f:Str)(v:V):∀fs:List (Str×V),(cU f v fs).length<=fs.length+1
 | []=>by simp[cU]
 | (k,x)::r=>by
  have ih:=dw f v r;rw[show cU f v ((k,x)::r)=(if k=f then(k,v)::r else(k,x)::cU f v r) from rfl]
  by_cases hk:k=f
  ·rw[q07 hk,MK,MK];omega
  ·rw[q06 hk,MK,MK];omega
theorem jK.some_of{v:V}{o:Option Value}(r:jK (some v) o):∃u,o=some u/\bu v u:=by
 cases o with
 |none=>exact(show False from r).elim
 |some u=>exact⟨u,rfl,r⟩
theorem jK.none_of(r:jK none o):o=none:=by
 cases o with
 |none=>rfl
 |some u=>exact(show False from r).elim
theorem uz(r:bu v u):PySem.W.handedIn u=true:=by
 cases v with
 |non=>cases(show u=Value.none from r);rfl
 |bl b=>cases(show u=Value.bool b from r);rfl
 |int i=>obtain⟨t,e⟩:=(show ∃t,u=Value.int i t from r);cases e;rfl
 |str x=>obtain⟨t,e⟩:=(show ∃t,u=Value.str x t from r);cases e;rfl
 |byt b=>obtain⟨t,e⟩:=(show ∃t,u=Value.bytes b t from r);cases e;rfl
 |flt b=>obtain⟨t,e⟩:=(show ∃t,u=Value.float b t from r);cases e;rfl
 |ref a=>cases(show u=Value.ref a from r);rfl
 |ty n=>cases(show u=Value.type n from r);rfl
section
variable {P:NE}{w:NH}{H H':Hp}{h h':Heap}{a C dx:Addr}{fs fs':List (Str×V)}
theorem pX(hok:kZ P w H h)(e:H a=some (.ins C dx fs)):∃mA,zL h a dx C mA/\(∀f,jK (fs.lookup f) (mA f))/\PySem.Within mA (fs.map (·.1))/\fs.length<=1000/\H dx=some (.own a):=by
 obtain⟨d,z,ne,b,mA,n,r,q⟩:=(show bM P w H h a (.ins C dx fs) from hok a _ e);exact⟨mA,⟨b,n,ne⟩,r,q,z,d⟩
end
structure mK(K:Nu)(C:Addr):Prop where
 pg:PySem.W.plainGet K C Str.empty=true
 hd:PySem.W.hasDictIn K C=true
 po:PySem.W.plainOver K C=true
 sa:PySem.W.findIn K (.ref C) "__setattr__"=some (some (.builtin "object.__setattr__"))
theorem mK.get{K:Nu}(c:mK K C)(f:Str):PySem.W.plainGet K C f=true:=c.pg
def aq(K:Nu)(C:Addr)(f:Str):Prop:=PySem.W.findIn K (.ref C) f=some none
theorem aq.taker{K:Nu}{f:Str}(n:aq K C f):PySem.W.takerIn K C f=some none:=by
 unfold PySem.W.takerIn;rw[show PySem.W.findIn K (.ref C) f=some none from n]
 rfl
structure dc(K:Nu)(C:Addr)(m:Str)(f:Addr):Prop where
 at_:PySem.W.findIn K (.ref C) m=some (some (.ref f))
 fn:PySem.W.isFn K (.ref f)=true
 kp:PySem.W.keepIn K (.ref f)=true
section
variable {X:Cx}{pins:Nv}{σ:St}{H:Hp}{s:Ny}{a C dx:Addr}{fs:List (Str×V)}{f:Str}{v:V}{A:NG}{E:Nt}
theorem zm{Q:Nt}(I:Inv X pins σ H s)(e:H a=some (.ins C dx fs))(c:mK X.K C)(n:aq X.K C f)(l:fs.lookup f=some v)
  (h:∀u s',Inv X pins σ H s'->bu v u->Q u s'):wpAny (model X.prog X.w) A (getAttr (.ref a) f b) Q E s:=by
 obtain⟨j,O,r,_,_,_⟩:=pX I.hok e;obtain⟨u,k,g⟩:=jK.some_of (v:=v) (o:=j f) (by rw[<- l];exact r f);exact FR I.kIn O (c.get f) c.hd n k (uz g) (h u _ (I.tok _) g)
theorem gL{pl:Sem Bool}{Q:Value×List Value->Shared->Prop}(I:Inv X pins σ H s)(e:H a=some (.ins C dx fs))(c:mK X.K C)(k:dc X.K C m g)(l:fs.lookup m=none)
  (h:Q (.ref g,[.ref a]) s):wpAny (model X.prog X.w) A (getMethod (.ref a) m pl) Q E s:=by
 obtain⟨b,O,r,_,_,_⟩:=pX I.hok e;have j:b m=none:=jK.none_of (by rw[<- l];exact r m);exact C7 I.kIn O (c.get m) k.at_ k.fn j h
theorem y8{Q:Unit->Shared->Prop}(I:Inv X pins σ H s)(e:H a=some (.ins C dx fs))(c:mK X.K C)(n:aq X.K C f)(hl:fs.length<1000)(ry:bu y u)
  (h:∀s',Inv X pins σ (ay H a (.ins C dx (cU f y fs))) s'->Q () s'):wpAny (model X.prog X.w) A (setAttr (.ref a) f u) Q E s:=by
 obtain⟨l,O,r,k,_,m⟩:=pX I.hok e;have v:(fs.map (·.1)).length<=sizeLine:=by rw[MA,q0R];omega
 refine Gs I.kIn O c.sa c.po n.taker c.hd k v λD j p=>h _ ?_;have hd:∃o,D.get? dx=some o:=let ⟨o,_,_,e',_⟩:=j.ns;⟨o,e'⟩
 refine I.write (x:=a) (e:=dx) (by rw[e];exact True.intro) (.inr m) (λb q B z=>(p.2 b B).trans z) hd ?_;refine⟨by rw[ao O.ne];exact m,?_,O.ne,j.obj,_,j.ns,λg=>?_,λg w=>?_⟩
 ·have:=dw f y fs;omega
 ·show jK ((cU f y fs).lookup g) (if g=f then some u else l g)
  rw[oW]
  by_cases q:g=f
  ·rw[q07 q,q07 q];exact ry
  ·rw[q06 q,q06 q];exact r g
 ·by_cases q:g=f
  ·rw[q];exact(n6 f y fs).1
  ·refine(n6 f y fs).2 g (k g λz=>w ?_)
   show(if g=f then some u else l g)=none;rw[q06 q];exact z
theorem Inv.made(I:Inv X pins σ H s):Inv X pins σ (ay (ay H s.heap.objs.size (.own (s.heap.objs.size+1))) (s.heap.objs.size+1) (.ins C s.heap.objs.size []))
  {s with heap:=(s.heap.push PySem.W.emptyDict).push (PySem.W.instObj C s.heap.objs.size)}:=by
 have c:(s.heap.push PySem.W.emptyDict).get? s.heap.objs.size=some PySem.W.emptyDict:=MF s.heap rfl;have l:((s.heap.push PySem.W.emptyDict).push (PySem.W.instObj C s.heap.objs.size)).get? (s.heap.objs.size+1)=some (PySem.W.instObj C s.heap.objs.size):=by
  have:=MF (s.heap.push PySem.W.emptyDict) (o:=PySem.W.instObj C s.heap.objs.size) rfl
  rwa [Heap.size_push]at this
 have k:(s.heap.push PySem.W.emptyDict).Ns s.heap.objs.size (λ_=>none):=⟨PySem.W.emptyDict,#[],_,c,rfl,(λe j=>q0N j (by simp)),λ_=>rfl⟩;have m:=I.laid (a:=s.heap.objs.size) (o:=.own (s.heap.objs.size+1)) (h':=s.heap.push PySem.W.emptyDict) (t':=s.toks) (λb u q=>Mz _ q) (MW _) ⟨_,c⟩;refine m.laid (a:=s.heap.objs.size+1) (o:=.ins C s.heap.objs.size []) (t':=s.toks) (λb u q=>Mz _ q) (Nat.le_of_eq (Heap.size_push _ _)) ?_;have ne:s.heap.objs.size≠s.heap.objs.size+1:=MS (M8 _);refine⟨by rw[ao ne,ad],MX _,ne,l,λ_=>none,(Heap.Ns1.of_empty k).at λo q=>Mz _ q,λ_=>True.intro,λy g=>q0N rfl g⟩
theorem At{prog:NE}{env:Env}{f:Str}{pos:Pos}{Q:Nt}(hb:attributeBase e f env (eval e env)=eval e env)
  (h:wpAny (model prog w) A (eval e env) (λo s₁=>wpAny (model prog w) A (getAttr o f true) Q E s₁) E s):wpAny (model prog w) A (eval (.Attribute e f pos) env) Q E s:=
 Attribute_any_ h (by rw[arm_eval_Attribute,hb])
end
def FP(K:Nu)(ta:TE)(f:Str):TE:=λσ H Q=>ta σ H λx H1=>∃a C dx fs v,x=.ref a/\H1 a=some (.ins C dx fs)/\mK K C/\aq K C f/\fs.lookup f=some v/\Q v H1
def GX(K:Nu)(ta tv:TE)(f:Str):TS:=λD σ H=>tv σ H λy H1=>ta σ H1 λx H2=>∃a C dx fs,x=.ref a/\H2 a=some (.ins C dx fs)/\mK K C/\aq K C f/\fs.length<1000 /\
 D.nx σ (ay H2 a (.ins C dx (cU f y fs)))
section
variable {X:Cx}{o e value:Expr}{f:Str}{pos pos' tpos:Pos}{ta tv:TE}
theorem bJ(he:PE X e ta)(hb:attributeBase e f X.env (eval e X.env)=eval e X.env):PE X (.Attribute e f pos) (FP X.K ta f):=by
 intro b s σ H Q I h;refine At hb (bV (he b s σ H _ I h) λu s1 ⟨x,r,p,g,a,C,dx,fs,v,k,m,c,n,l,q⟩=>?_);subst k;obtain rfl:u=Value.ref a:=g;exact zm p m c n l λu' s2 o j=>⟨v,r,o,j,q⟩
theorem dC(ha:PE X o ta)(hv:PE X value tv)(hs:swapsWith value (some (.Attribute o f pos')) pos.line X.env=pure false):PS X (.Assign [.Attribute o f pos'] value pos) (GX X.K ta tv f):=by
 intro b s σ H D I h;refine plainObj_wpAny_Assign_Attribute (bV (hv b s σ H _ I h) λu e ⟨y,B,w,g,q⟩=>bV (ha b e σ B _ w q) λov s2 ⟨x,H2,v,j,a,C,dx,fs,m,p,c,n,l,k⟩=>?_) hs;subst m;obtain rfl:ov=Value.ref a:=j;exact y8 v p c n l g λs3 r=>⟨σ,_,r,k⟩
end
section
variable {X:Cx}{pins:Nv}{σ:St}{H:Hp}{s:Ny}{A:NG}{E:Nt}{Q:Nt}{c:Value}{b:Bool}
inductive m7(K:Nu)(H:Hp):V->Value->Prop where
 |non:m7 K H .non (.type "NoneType")
 |bl (x:Bool):m7 K H (.bl x) (.type "bool")
 |int (i:Int):m7 K H (.int i) (.type "int")
 |str (x:Str):m7 K H (.str x) (.type "str")
 |flt (x:UInt64):m7 K H (.flt x) (.type "float")
 |lst {a:Addr} {xs:List V} (e:H a=some (.lst xs)):m7 K H (.ref a) (.type "list")
 |frz {a:Addr} {o:Obj} {xs:List V} (e:H a=some (.frz o (.lst xs))):m7 K H (.ref a) (.type "list")
 |tup {a:Addr} {xs:List V} (e:H a=some (.tup xs)):m7 K H (.ref a) (.type "tuple")
 |dK {a:Addr} {kvs:List (df×V)} (e:H a=some (.dK kvs)):m7 K H (.ref a) (.type "dict")
 |dT {a:Addr} {kvs:List (List df×V)} (e:H a=some (.dT kvs)):m7 K H (.ref a) (.type "dict")
 |ins {a C dx:Addr} {fs:List (Str×V)} (e:H a=some (.ins C dx fs)) (cl:mK K C) (ha:PySem.W.findIn K (.ref C) "__class__"=some (some (.builtin "object.__class__")))
   (hn:PySem.W.specialIn K (.builtin "object.__class__") "__get__"=some (some (.builtin "getset_descriptor.__get__"))) (htk:PySem.W.takesIn K (.builtin "object.__class__")=some true)
   (hm:PySem.W.mroIn K C (.type "object")=some true):m7 K H (.ref a) (.ref C)
theorem B0{t:Value}(I:Inv X pins σ H s)(rx:bu x u)(ty:m7 X.K H x t)(e:PySem.W.kitOne X.K t c=some b)(h:∀tk,Q (.bool b) {s with toks:=tk}) :
  wpAny (model X.prog X.w) A (call (.builtin "isinstance") [u,c]) Q E s:=by
 cases ty with
 |non=>cases(show u=Value.none from rx);exact PySem.W.kia_one PySem.W.kitx_none I.kIn True.intro e (λz=>nomatch z) h
 |bl y=>cases(show u=Value.bool y from rx);exact PySem.W.kia_one PySem.W.kitx_bool I.kIn True.intro e (λz=>nomatch z) h
 |int i=>obtain⟨t,q⟩:=(show ∃t,u=Value.int i t from rx);cases q;exact PySem.W.kia_one PySem.W.kitx_int I.kIn True.intro e (λz=>nomatch z) h
 |str y=>obtain⟨t,q⟩:=(show ∃t,u=Value.str y t from rx);cases q;exact PySem.W.kia_one PySem.W.kitx_str I.kIn True.intro e (λz=>nomatch z) h
 |flt y=>obtain⟨t,q⟩:=(show ∃t,u=Value.float y t from rx);cases q;exact PySem.W.kia_one PySem.W.kitx_float I.kIn True.intro e (λz=>nomatch z) h
 | @lst a g ea=>
  cases(show u=Value.ref a from rx);obtain⟨_,_,n,_,h1⟩:=(show bM X.prog X.w H s.heap a (.lst g) from I.hok a _ ea);exact PySem.W.kia_one PySem.W.kitx_list I.kIn ⟨_,h1,rfl⟩ e (λz=>nomatch z) h
 | @frz a ob g ea=>
  cases(show u=Value.ref a from rx);obtain⟨_,_,_,n,_,h1⟩:=(show bM X.prog X.w H s.heap a (.frz ob (.lst g)) from I.hok a _ ea);exact PySem.W.kia_one PySem.W.kitx_list I.kIn ⟨_,h1,rfl⟩ e (λz=>nomatch z) h
 | @tup a g ea=>
  cases(show u=Value.ref a from rx);obtain⟨_,_,_,p⟩:=(show bM X.prog X.w H s.heap a (.tup g) from I.hok a _ ea);obtain⟨o,h1,h2,_⟩:=p;exact PySem.W.kia_one PySem.W.kitx_tuple I.kIn ⟨o,h1,h2⟩ e (λz=>nomatch z) h
 | @dK a kvs ea=>
  cases(show u=Value.ref a from rx);obtain⟨_,_,vs,_,p⟩:=(show bM X.prog X.w H s.heap a (.dK kvs) from I.hok a _ ea);obtain⟨o,j,k,h1,h2,_⟩:=p;exact PySem.W.kia_one PySem.W.kitx_dict I.kIn ⟨o,h1,h2.1⟩ e (λz=>nomatch z) h
 | @dT a kvs ea=>
  cases(show u=Value.ref a from rx);obtain⟨_,_,g,_,o,j,k,h1,h2,_⟩:=(show bM X.prog X.w H s.heap a (.dT kvs) from I.hok a _ ea);exact PySem.W.kia_one PySem.W.kitx_dict I.kIn ⟨o,h1,h2.1⟩ e (λz=>nomatch z) h
 | @ins a C dx fs ea cl ha hn htk hm=>
  cases(show u=Value.ref a from rx);obtain⟨mA,O,_⟩:=pX I.hok ea;obtain⟨od,J,_⟩:=O.look;exact PySem.W.kia_one (PySem.W.kitx_own (cl.get _) cl.hd ha hn htk hm) I.kIn J e (λz=>nomatch z) h
end
structure dv(k:Nat)(A:NG):Prop where
 hd:A.handled=none
 dp:A.depth+3*k+5<recursionLimit
 un:A.units+16*k+200<cLine
theorem dv.mono{j:Nat}(r:dv k A)(h:j<=k):dv j A:=⟨r.hd,by have:=r.dp;omega,by have:=r.un;omega⟩
theorem dv.deeper{k:Nat}{A:NG}(r:dv (k+1) A)(env:Env):dv k (A.deeper env):=
 ⟨r.hd,by have:=r.dp;show A.depth+1+3*k+5<_;omega,by have:=r.un;show A.units+3+16*k+200<_;omega⟩
theorem yR{A:NG}{C:Addr}{us:Nz}{kw:List (Str×Value)}:(A.under (.builtin "type.__call__" ⟨.ref C::us,kw⟩)).depth=A.depth+1:=by
 first | rfl | simp[Around.under,Code.weight,Code.isCreation,Code.isGuard,Code.isCaller,Code.frames,Code.isFrame,guardIds]
theorem zZ{A:NG}{C:Addr}{us:Nz}{kw:List (Str×Value)}:(A.under (.builtin "type.__call__" ⟨.ref C::us,kw⟩)).units=A.units+1:=by
 first | rfl | simp[Around.under,Code.cUnits,Code.frames,Code.isFrame]
theorem dv.make{k:Nat}{A:NG}(r:dv (k+1) A)(C:Addr)(us:Nz)(kw:List (Str×Value)):dv k (A.under (.builtin "type.__call__" ⟨.ref C::us,kw⟩)):=
 ⟨r.hd,by have:=r.dp;rw[yR];omega,by have:=r.un;rw[zZ];omega⟩
theorem dv.depth(r:dv k A):A.depth<recursionLimit:=by have:=r.dp;omega
theorem dv.units(r:dv k A):A.units+64<cLine:=by have:=r.un;omega
def uX:TA:=λ_ H Q=>Q [] H
def qJ(ta:TE)(tr:TA):TA:=λσ H Q=>ta σ H λx H1=>tr σ H1 λxs H2=>Q (x::xs) H2
section
variable {X:Cx}{e:Expr}{es:NK}{te:TE}{t:TA}{pos:Pos}
theorem ac:PA X [] uX:=λ_ _ _ _ H Q I h=>Calls.spliced_nil ⟨[],H,I,.nil,h⟩
theorem aa(ha:PE X e te)(hr:PA X es t)(hs:autoParam (starEach (e::es) X.env=(false,eval e X.env)::starEach es X.env) zz0._auto_1):PA X (e::es) (qJ te t):=by
 intro b a s σ H Q I h;rw[hs];show wpAny _ _ (spliced ((false,eval e X.env)::backTo b (starEach es X.env))) _ _ s;refine Calls.spliced_cons (bV (ha a s σ H _ I h) λu g ⟨x,q,o,k,m⟩=>?_);exact bV (hr b a g σ q _ o m) λus s2 ⟨c,p,n,j,l⟩=>⟨x::c,p,n,.cons k j,l⟩
def Hb(t:TA):TE:=λσ H Q=>t σ H λxs H1=>xs.length<=sizeLine/\∀p,H1 p=none->Q (.ref p) (ay H1 p (.tup xs))
def Gy(t:TA):TE:=λσ H Q=>t σ H λxs H1=>xs.length<=sizeLine/\∀p,H1 p=none->Q (.ref p) (ay H1 p (.lst xs))
theorem aG{x1}(h:PA X es t):PE X (.Tuple es x1 pos) (Hb t):=by
 intro a s σ H Q I hq;refine wpAny_Tuple_spliced (bV (h pos a s σ H _ I hq) λus c ⟨k,j,g,r,z,q⟩=>⟨by rw[<- r.length];exact z,?_⟩);have l:j c.heap.objs.size=none:=g.hok.fresh (MW _);refine⟨.ref c.heap.objs.size,ay j c.heap.objs.size (.tup k),g.laid (t':=c.toks) (λb u e=>Mz _ e) (MW _) ?_,rfl,q _ l⟩;exact⟨z,us,r,⟨_,MF _ rfl,rfl,_,rfl⟩⟩
theorem bK(h:PA X es t):PE X (.List es pos) (Gy t):=by
 intro a s σ H Q I hq;refine wpAny_List_spliced (bV (h pos a s σ H _ I hq) λus c ⟨k,j,g,r,z,q⟩=>⟨by rw[<- r.length];exact z,?_⟩);have l:j c.heap.objs.size=none:=g.hok.fresh (MW _);refine⟨.ref c.heap.objs.size,ay j c.heap.objs.size (.lst k),g.laid (t':=c.toks) (λb u e=>Mz _ e) (MW _) ?_,rfl,q _ l⟩;exact⟨z,us,0,r,MF _ rfl⟩
end
abbrev Sp:=List V->Hp->VK->XK->Prop
abbrev kC:=List Env->Hp->Shared->XK->Value->Shared->Prop
structure xk(P:NE)(w:NH)(K:Nu)(mg:NC)(base:Heap)(A:NG)(outer:List Env)(s:Ny)(H:Hp):Prop where
 frames:A.frames=some outer
 mod:Mod K mg base
 bs:∀b o,base.get? b=some o->s.heap.get? b=some o/\H b=none
 bsz:base.objs.size<=s.heap.objs.size
 funs:s.heap.FunFrames base outer
 frf:∀b∈lS outer,H b=none
 hok:kZ P w H s.heap
 bare:AllBare s.gens
def CE(outer:List Env)(P:NE)(w:NH)(H:Hp)(s:Ny)(Q:VK)(u:Value)(s':Ny):Prop:=
 ∃v H',s'.os=s.os/\AllBare s'.gens/\Un (lS outer) [] H H' s.heap s'.heap/\kZ P w H' s'.heap/\bu v u/\Q v H'
def CR(CX:kC)(outer:List Env)(P:NE)(w:NH)(H:Hp)(s:Ny)(Q:VK)(E:XK)(r:Result)(s':Ny):Prop:=
 match r with
 | .ok (.ret u)=>CE outer P w H s Q u s'
 | .ok _=>False
 | .error e=>CX outer H s E e s'
structure aS(P:NE)(w:NH)(K:Nu)(mg:NC)(base:Heap)(CX:kC)(k:Nat)(f:Addr)(fd:ND)(ps:NF)(sp:Sp):Prop where
 len:∀vs H Q E,sp vs H Q E->vs.length=ps.length
 run:∀(A:NG) (outer:List Env) (s:Ny) (H:Hp) (args:Args) (us:Nz) (vs:List V) (Q:VK) (E:XK),dv k A->xk P w K mg base A outer s H->BindsTo s fd args (ps.zip us)->bo vs us->sp vs H Q E ->
  codeAny (model P w) A (.call (.ref f) args) (CR CX outer P w H s Q E) s
theorem aS.mono{K:Nu}{mg:NC}{base:Heap}{CX:kC}{k:Nat}{f:Addr}{ps:NF}{sp:Sp}(F:aS P w K mg base CX j f fd ps sp)(h:j<=k) :
  aS P w K mg base CX k f fd ps sp:=⟨F.len,λA outer s H args us vs Q E hr=>F.run A outer s H args us vs Q E (hr.mono h)⟩
theorem xk.make{K:Nu}{mg:NC}{base:Heap}{outer:List Env}(e:xk P w K mg base A outer s H)(C:Addr)(us:Nz)(kw:List (Str×Value)) :
  xk P w K mg base (A.under (.builtin "type.__call__" ⟨.ref C::us,kw⟩)) outer s H:=⟨by first | exact e.frames | (simpa[Around.under,Code.envs,Code.isFrame,pushEnvs]using e.frames),e.mod,e.bs,e.bsz,e.funs,e.frf,e.hok,e.bare⟩
section
variable {X:Cx}{pins:Nv}{σ:St}{H:Hp}{s s':Ny}
theorem Inv.env0(I:Inv X pins σ H s):xk X.prog X.w X.K X.mg X.base X.A X.stack s H:=
 ⟨I.ok.frames,I.ok.mod,I.bs,M6 I.ok.bsz I.sz,I.stack,I.stkFree,I.hok,I.bare⟩
theorem Inv.after(I:Inv X pins σ H s)(h:CE X.stack X.prog X.w H s Q u s'):EP X pins σ Q u s':=by
 obtain⟨v,k,os,a,un,e,r,q⟩:=h;obtain⟨j,g,d,t,c⟩:=s';obtain rfl:c=s.os:=os;exact⟨v,k,I.call (h':=j) (g':=g) (d':=d) (t':=t) (ch:=[]) un e a (λb z=>q0N z (by simp)),r,q⟩
end
def pw(sp:Sp)(dvs:List V)(E:XK)(t:TA):TE:=λσ H Q=>t σ H λvs H1=>sp (vs++dvs) H1 Q E
def ux(C:Addr)(m:Str)(sp:Sp)(dvs:List V)(E:XK)(ta:TE)(t:TA):TE:=λσ H Q=>ta σ H λx H1=>∃a dx fs,x=.ref a/\H1 a=some (.ins C dx fs)/\fs.lookup m=none /\
 t σ H1 λvs H2=>sp (x::(vs++dvs)) H2 Q E
def AX(C:Addr)(sp:Sp)(dvs:List V)(E:XK)(t:TA):TE:=λσ H Q=>t σ H λvs H1=>∀x dx,H1 x=none->H1 dx=none->dx≠x ->
 sp (.ref x::(vs++dvs)) (ay (ay H1 dx (.own x)) x (.ins C dx [])) (λv H2=>v=.non/\Q (.ref x) H2) E
def cq(K:Nu)(fd:ND)(ps:NF)(ds:Nz):Prop:=
 ∀(s:Ny) (us:Nz),K.In s.heap->(us++ds).length=ps.length->BindsTo s fd ⟨us,[]⟩ (ps.zip (us++ds))
theorem cq.all{K:Nu}{ps:NF}(h:∀us:List Value,us.length=ps.length->bindArgs fd ⟨us,[]⟩=pure (ps.zip us)):cq K fd ps []:=λs us _ hl=>by
 rw[M9]at hl ⊢;exact .of_eq (h us hl)
def dr(CX:kC)(X:Cx)(E:XK):Prop:=∀(pins:Nv) (σ:St) (H:Hp) (s:Ny) (e:Value) (s':Ny),Inv X pins σ H s->CX X.stack H s E e s'->X.xe e s'
section
variable {X:Cx}{CX:kC}{k:Nat}{f C:Addr}{fd:ND}{ps:NF}{sp:Sp}{dvs:List V}{ds:Nz}{E:XK}{x m:Str}{p pos apos:Pos}{e o:Expr}{es:NK}{ta:TE}{t:TA}
theorem nS{pins:Nv}{σ:St}(F:aS X.prog X.w X.K X.mg X.base CX k f fd ps sp)(hr:dv k X.A)(hb:cq X.K fd ps ds)(hd:bo dvs ds)(hx:dr CX X E)
  (I:Inv X pins σ H s) (r:bo vs us) (h:sp (vs++dvs) H Q E):wpAny (model X.prog X.w) X.A (call (.ref f) us) (EP X pins σ Q) X.xe s:=by
 have b:bo (vs++dvs) (us++ds):=r.append hd;have g:(us++ds).length=ps.length:=by rw[<- b.length];exact F.len _ _ _ _ h
 refine wpAny_call (codeAny_mono (F.run X.A X.stack s H ⟨us,[]⟩ (us++ds) (vs++dvs) Q E hr I.env0 (hb s us I.kIn g) b h) λr c a=>?_);cases r with
 |error e=>exact hx pins σ H s e c I a
 |ok fl=>
  cases fl with
  |ret u=>exact I.after a
  |next=>exact False.elim a
  |brk=>exact False.elim a
  |cont=>exact False.elim a
theorem F8(F:aS X.prog X.w X.K X.mg X.base CX k f fd ps sp)(hr:dv k X.A)(hg:Gl X x)(hm:X.mg x=some (.ref f))(hk:PySem.W.keepIn X.K (.ref f)=true)(hb:cq X.K fd ps ds)(hd:bo dvs ds)(hx:dr CX X E)
  (ha:PA X (e::es) t) (hdb:autoParam ((x==("__debug__":Str))=false) zz1._auto_1) (he:autoParam (starEach (e::es) X.env=(false,eval e X.env)::starEach es X.env) zz0._auto_1) (hpl:autoParam ((backTo pos (starEach es X.env)).any (·.1)=false) zz0._auto_1) :
  PE X (.Call (.Name x p) (e::es) [] pos) (pw sp dvs E t):=by
 intro a s σ H Q I h;refine wpAny_Call_Name_kw (gm I hg hm ?_ hdb);refine PySem.W.callWith_K (h₀:=X.base) I.ok.mod.kin hk (bV (ha pos a s σ H _ I h) λus s1 ⟨vs,H1,b,r,q⟩=>⟨b.kIn,?_⟩) he hpl;exact nS F hr hb hd hx b r q
theorem Go{pl:Sem Bool}(he:PE X o ta)(c:mK X.K C)(hm:dc X.K C m f)(F:aS X.prog X.w X.K X.mg X.base CX k f fd ps sp)(hr:dv k X.A)(hb:cq X.K fd ps ds)(hd:bo dvs ds)(hx:dr CX X E)(ha:PA X (e::es) t)
  (hst:autoParam (starEach (e::es) X.env=(false,eval e X.env)::starEach es X.env) zz0._auto_1) (hpl:autoParam ((backTo pos (starEach es X.env)).any (·.1)=false) zz0._auto_1)
  (ht:autoParam (eval (.Call (.Attribute o m apos) (e::es) [] pos) X.env=(do
   let ov <- eval o X.env
   standAt apos.atName
   let (f,first) <- holding [ov] (getMethod ov m pl)
   callWith pos f first (backTo pos (starEach (e::es) X.env)) (backToKw pos (keywordEach [] X.env)))) zz0._auto_1) :
  PE X (.Call (.Attribute o m apos) (e::es) [] pos) (ux C m sp dvs E ta t):=by
 intro b s σ H Q I h;refine PySem.W.methodCall_KW (pl:=pl) (bV (he b s σ H _ I h) λu n ⟨x,B,j,p,a,dx,fs,w,y,l,q⟩=>?_) ht;subst w;obtain rfl:u=Value.ref a:=p;refine gL j y c hm l ?_;refine PySem.W.callWith_K (first:=[.ref a]) (h₀:=X.base) I.ok.mod.kin hm.kp (bV (ha pos b n σ B _ j q) λus s2 ⟨vs,H2,g,r,v⟩=>⟨g.kIn,?_⟩) hst hpl;exact nS (us:=.ref a::us) (vs:=.ref a::vs) F hr hb hd hx g (.cons rfl r) v
theorem E9{pl:Sem Bool}(he:PE X o ta)(c:mK X.K C)(hm:dc X.K C m f)(F:aS X.prog X.w X.K X.mg X.base CX k f fd ps sp)(hr:dv k X.A)(hb:cq X.K fd ps ds)(hd:bo dvs ds)(hx:dr CX X E)
  (ht:autoParam (eval (.Call (.Attribute o m apos) [] [] pos) X.env=(do
   let ov <- eval o X.env
   standAt apos.atName
   let (f,first) <- holding [ov] (getMethod ov m pl)
   callWith pos f first (backTo pos (starEach [] X.env)) (backToKw pos (keywordEach [] X.env)))) zz0._auto_1) :
  PE X (.Call (.Attribute o m apos) [] [] pos) (ux C m sp dvs E ta uX):=by
 intro b s σ H Q I h;refine PySem.W.methodCall_KW (pl:=pl) (bV (he b s σ H _ I h) λu s1 ⟨x,H1,e,g,a,dx,fs,j,n,l,q⟩=>?_) ht;subst j;obtain rfl:u=Value.ref a:=g;refine gL e n c hm l ?_;exact PySem.W.callWith_K0 (first:=[.ref a]) e.kIn hm.kp (nS (us:=[.ref a]) (vs:=[.ref a]) F hr hb hd hx e (.cons rfl .nil) q)
structure Mk(K:Nu)(C f:Addr):Prop where
 makes:PySem.W.makesIn K C=true
 init:PySem.W.findIn K (.ref C) "__init__"=some (some (.ref f))
 fn:PySem.W.isFn K (.ref f)=true
 kp:PySem.W.keepIn K (.ref C)=true
theorem DF{pins:Nv}{σ:St}{Q:VK}(M:Mk X.K C f)(F:aS X.prog X.w X.K X.mg X.base CX k f fd ps sp)(hr:dv (k+1) X.A)(hb:cq X.K fd ps ds)(hd:bo dvs ds)
  (hx:dr CX X E) (I:Inv X pins σ H s) (r:bo vs us)
  (h:∀x dx,H x=none->H dx=none->dx≠x->sp (.ref x::(vs++dvs)) (ay (ay H dx (.own x)) x (.ins C dx [])) (λv H2=>v=.non/\Q (.ref x) H2) E) :
  wpAny (model X.prog X.w) X.A (call (.ref C) us) (EP X pins σ Q) X.xe s:=by
 have g:=h (s.heap.objs.size+1) s.heap.objs.size (I.hok.fresh (Nat.le_succ _)) (I.hok.fresh (MW _)) (MS (M8 _));have b:=Inv.made (C:=C) I;have c:bo (V.ref (s.heap.objs.size+1)::(vs++dvs)) (Value.ref (s.heap.objs.size+1)::(us++ds)):=.cons rfl (r.append hd);have n:(Value.ref (s.heap.objs.size+1)::us++ds).length=ps.length:=by
  have e:=c.length;rw[F.len _ _ _ _ g]at e;exact e.symm
 refine wpAny_call (ES (f:=f) I.kIn M.makes M.init (beq_iff_eq.mp M.fn) (codeAny_mono (F.run _ X.stack _ _ ⟨Value.ref (s.heap.objs.size+1)::us,[]⟩ (Value.ref (s.heap.objs.size+1)::(us++ds)) _ _ E (hr.make C us [])
  (b.env0.make C us []) (hb _ (Value.ref (s.heap.objs.size+1)::us) b.kIn n) c g) λr j a=>?_))
 cases r with
 |error e=>exact hx pins σ _ _ e j b a
 |ok fl=>
  cases fl with
  |ret u=>
   obtain⟨v,q,p,l,o,m⟩:=b.after a;subst o;exact⟨l,⟨V.ref (s.heap.objs.size+1),q,p,rfl,m⟩⟩
  |next=>exact False.elim a
  |brk=>exact False.elim a
  |cont=>exact False.elim a
theorem FM(M:Mk X.K C f)(F:aS X.prog X.w X.K X.mg X.base CX k f fd ps sp)(hr:dv (k+1) X.A)(hg:Gl X x)(hm:X.mg x=some (.ref C))(hb:cq X.K fd ps ds)(hd:bo dvs ds)(hx:dr CX X E)
  (ha:PA X (e::es) t) (hdb:autoParam ((x==("__debug__":Str))=false) zz1._auto_1) (he:autoParam (starEach (e::es) X.env=(false,eval e X.env)::starEach es X.env) zz0._auto_1) (hpl:autoParam ((backTo pos (starEach es X.env)).any (·.1)=false) zz0._auto_1) :
  PE X (.Call (.Name x p) (e::es) [] pos) (AX C sp dvs E t):=by
 intro a s σ H Q I h;refine wpAny_Call_Name_kw (gm I hg hm ?_ hdb);refine PySem.W.callWith_K (h₀:=X.base) I.ok.mod.kin M.kp (bV (ha pos a s σ H _ I h) λus s1 ⟨vs,H1,b,r,q⟩=>⟨b.kIn,?_⟩) he hpl;exact DF M F hr hb hd hx b r q
end
section
variable {X:Cx}{CX:kC}{k:Nat}{f C:Addr}{fd:ND}{ps ks:NF}{sp:Sp}{E:XK}{x m:Str}{p pos apos kpos:Pos}{e o:Expr}{es:NK}{kws:List Keyword}{te ta:TE}{t tk:TA}{nm:Option Str}
variable {g:List Value->List Value->List Value}{gV:List V->List V->List V}
end
structure aw(N P:NF)(sc:Scope):Prop where
 kind:sc.kind=.function
 co:sc.isCoroutine=false
 gen:sc.isGenerator=false
 nd:N.Nodup
 pre:N.take P.length=P
 par:∀x∈P,sc.names.lookup x=some .local\/sc.names.lookup x=some .cell
 nofree:∀y∈sc.names,y.2≠.free
theorem tU{kindOf:Str->Option NameKind}{x:Str}:∀{binds:List (Str×Value)} {m:NC},(∀v,(x,v)∉binds)->bindL kindOf binds m x=m x
 | [],_,_=>rfl
 | (n,v)::r,m,h=>by
  unfold bindL;rw[tU λw hw=>h w (MP _ hw)]
  split
  ·have:x≠n:=by rintro rfl;exact h v q0B
   simp[this]
  ·rfl
theorem um{kindOf:Str->Option NameKind}{x:Str}:∀{binds:List (Str×Value)} {m:NC},(∀v,(x,v)∉binds)->bindC kindOf binds m x=m x
 | [],_,_=>rfl
 | (n,v)::r,m,h=>by
  unfold bindC;rw[um λw hw=>h w (MP _ hw)]
  split
  ·rfl
  ·have:x≠n:=by rintro rfl;exact h v q0B
   simp[this]
theorem tE{kindOf:Str->Option NameKind}{x:Str}{v:Value}:∀{P:NF} {vs:Nz} {i:Nat} {m:NC},P.Nodup->P[i]?=some x->vs[i]?=some v->kindOf x=some .local ->
  bindL kindOf (P.zip vs) m x=some v
 | [],_,_,_,_,h,_,_=>by simp at h
 |_::_,[],_,_,_,_,h,_=>by simp at h
 |p::P,w::vs,0,m,nd,h1,h2,hk=>by
  simp at h1 h2;subst h1;subst h2
  show bindL kindOf ((p,w)::P.zip vs) m p=_;unfold bindL;rw[tU λv hv=>(List.nodup_cons.mp nd).1 (List.of_mem_zip hv).1,q07 hk];simp
 |p::P,w::vs,i+1,m,nd,h1,h2,hk=>by
  show bindL kindOf ((p,w)::P.zip vs) m x=_;unfold bindL;exact tE (i:=i) (List.nodup_cons.mp nd).2 (by simpa using h1) (by simpa using h2) hk
theorem ug{kindOf:Str->Option NameKind}{x:Str}{v:Value}:∀{P:NF} {vs:Nz} {i:Nat} {m:NC},P.Nodup->P[i]?=some x->vs[i]?=some v->kindOf x≠some .local ->
  bindC kindOf (P.zip vs) m x=some v
 | [],_,_,_,_,h,_,_=>by simp at h
 |_::_,[],_,_,_,_,h,_=>by simp at h
 |p::P,w::vs,0,m,nd,h1,h2,hk=>by
  simp at h1 h2;subst h1;subst h2
  show bindC kindOf ((p,w)::P.zip vs) m p=_;unfold bindC;rw[um λv hv=>(List.nodup_cons.mp nd).1 (List.of_mem_zip hv).1,q06 hk];simp
 |p::P,w::vs,i+1,m,nd,h1,h2,hk=>by
  show bindC kindOf ((p,w)::P.zip vs) m x=_;unfold bindC;exact ug (i:=i) (List.nodup_cons.mp nd).2 (by simpa using h1) (by simpa using h2) hk
def start(N:NF)(vs:List V):St:=vs.map some++List.replicate (N.length-vs.length) none
def gS(CX:kC)(P:NE)(w:NH)(K:Nu)(mg:NC)(base:Heap)(N:NF)(qual:Str)(scope:Scope)(f:Addr)(cd:Value)(A:NG)(outer:List Env)(s:Ny)(H:Hp)(E:XK):Cx where
 prog:=P
 w:=w
 K:=K
 mg:=mg
 base:=base
 A:=A.deeper (envOfC qual scope s.heap.objs.size f cd)
 N:=N
 s₀:=s
 H₀:=H
 env:=envOfC qual scope s.heap.objs.size f cd
 outer:=outer
 stack:=envOfC qual scope s.heap.objs.size f cd::outer
 ex:=[]
 calm:=true
 fn:=λ_=>true
 pn:=[]
 xe:=λe s'=>wpAny (model P w) (A.deeper (envOfC qual scope s.heap.objs.size f cd)) (leaving (envOfC qual scope s.heap.objs.size f cd) e) (λ_ s''=>CX outer H s E e s'') (λe' s''=>CX outer H s E e' s'') s'
theorem wM{sc:Scope}(h:sc.names.lookup x=some .cell):∃c,(cellsFrom n sc.names []).lookup x=some c:=by
 have q:=PySem.W.cellsFrom_some sc.names n [] (.inl h);exact Option.isSome_iff_exists.mp q
theorem Bf{CX:kC}{K:Nu}{mg:NC}{base:Heap}{ps:NF}{qual:Str}{scope:Scope}{f:Addr}{cd:Value}{A:NG}{outer:List Env}{s1:Ny}{vs:List V}
  (S:aw N ps scope) (hd:A.handled=none) (e0:xk P w K mg base A outer s H) (hl:vs.length=ps.length) (r:bo vs us)
  (x:InCallC s s.heap.objs.size (bindL (envOfC qual scope s.heap.objs.size f cd).kindOf (ps.zip us) λ_=>none) (cellsFrom (s.heap.objs.size+1) scope.names []) (bindC (envOfC qual scope s.heap.objs.size f cd).kindOf (ps.zip us) λ_=>none) s1) :
  Inv (gS CX P w K mg base N qual scope f cd A outer s H E) [] (start N vs) H s1:=by
 have hpl:ps.length<=N.length:=by have:=q0O List.length S.pre;rw[Nb]at this;omega
 obtain⟨h1,tk,rfl,B⟩:=x.done;have g:∀b:Addr,b∉(gS CX P w K mg base N qual scope f cd A outer s H E).ex:=λb z=>q0N (show b∈([]:List Addr) from z) (by simp);refine⟨⟨e0.mod,S.kind,rfl,rfl,MW _,λy z c h1 h2=>?_,λy hy=>?_,λy c _ h=>?_,λ_=>hd,Around.frames_deeper e0.frames,.inr ⟨rfl,rfl⟩,λb z=>q0N z (g b),e0.bs,e0.bsz,λb _ _=>g b,λb z=>q0N z (g b),e0.funs,e0.frf⟩,
  rfl,e0.bare,Un.kept B,⟨_,x.toInCall.ns,λi y v h1 h2 h3=>?_⟩,λy c h=>⟨_,x.cell y c h⟩,e0.hok.fresh (MW _),λy c h=>?_,λp l=>q0N (show p∈([]:List (Addr×Obj)) from l) (by simp),e0.hok.kept B,?_⟩
 ·exact name_of_addr x.apart (PySem.mem_of_lookup h1) (PySem.mem_of_lookup h2)
 ·have hy:scope.names.lookup y=some .cell\/scope.names.lookup y=some .free:=hy
  rcases hy with hy | hy
  ·exact wM hy
  ·exact q0N rfl (S.nofree _ (PySem.mem_of_lookup hy))
 ·exact q0M (x.above y c (PySem.mem_of_lookup h))
 ·have m:i<vs.length:=by
   unfold start at h2
   by_cases m:i<vs.length
   ·exact m
   ·rw[MT (by simpa using m)]at h2
    rw[List.getElem?_replicate]at h2
    split at h2<;>cases h2
  have D:vs[i]?=some v:=by
   unfold start at h2;rw[MU (by simpa using m),MC]at h2;cases e:vs[i]? with
   |none=>rw[e]at h2;cases h2
   |some a=>rw[e]at h2;cases h2;rfl
  obtain⟨u,o,C⟩:=r.get D;have l:ps[i]?=some y:=by
   rw[<- S.pre,List.getElem?_take_of_lt ⋯];exact h1
  have j:ps.Nodup:=by rw[<- S.pre];exact S.nd.sublist (List.take_sublist _ _)
  refine⟨u,C,?_⟩;rcases S.par y (MD l) with k | k
  ·exact .inl ⟨k,tE j l o k⟩
  ·obtain⟨c,e⟩:=wM (n:=s.heap.objs.size+1) k
   refine .inr ⟨.inl k,c,e,?_⟩;have q:=x.cell y c e;rw[ug j l o (by show scope.names.lookup y≠_;rw[k];decide)]at q;exact q
 ·exact e0.hok.fresh (q0M (x.above y c (PySem.mem_of_lookup h)))
 ·unfold start
  show _=N.length;rw[MV,MA,List.length_replicate];omega
theorem GL{CX:kC}{K:Nu}{mg:NC}{base:Heap}{f:Addr}{name qual:Str}{params:Arguments}{body:List Stmt}{scope:Scope}{dV kV doc pm cdv ct oc:Value}{an od:NJ}
  {osl:Array (Option Value)}{ps:NF} {sp:Sp} (lk:K.lookup f=some ⟨oc,od,.func (PySem.W.fnOf name qual params body scope dV kV doc pm an cdv ct),osl⟩) (hcd:PySem.W.codeIn K cdv qual=true) (S:aw N ps scope)
  (len:∀vs H Q E,sp vs H Q E->vs.length=ps.length)
  (hbody:∀(A:NG) (outer:List Env) (s:Ny) (H:Hp) (vs:List V) (Q:VK) (E:XK),dv k (A.deeper (envOfC qual scope s.heap.objs.size f cdv))->sp vs H Q E ->
   ∃t,wu (gS CX P w K mg base N qual scope f cdv A outer s H E) body t/\t {nx:=λ_ H'=>Q .non H',rt:=Q} (start N vs) H) :
  aS P w K mg base CX (k+1) f (PySem.W.fnOf name qual params body scope dV kV doc pm an cdv ct) ps sp:=by
 refine⟨len,λA outer s H args G vs Q E hr l U r g=>?_⟩;have R:=len _ _ _ _ g;have D:K.In s.heap:=l.mod.kin.keeps λb o e=>(l.bs b o e).1;have B:s.heap.NoLimit:=l.mod.nolimit.keeps λb o e=>(l.bs b o e).1;have a:∀y∈ps.zip G,scope.names.lookup y.1=some .local\/(scope.names.lookup y.1=some .cell/\((cellsFrom (s.heap.objs.size+1) scope.names []).lookup y.1).isSome=true):=λ⟨n,v⟩ L=>by
  rcases S.par n (List.of_mem_zip L).1 with q | q
  ·exact .inl q
  ·exact .inr ⟨q,PySem.W.cellsFrom_some _ _ _ (.inl q)⟩
 refine codeAny_call_function hr.depth (D _ _ lk) rfl S.co S.gen rfl (PySem.W.codeRec_of D hcd) (U _ _ _ _ ?_);refine wpAny_newFunctionEnv_cells S.kind a λenv T C x=>?_;subst T;refine⟨B.keeps x.toInCall.keep,codeAny_func ?_⟩;obtain⟨t,M,O⟩:=hbody A outer s H vs Q E (hr.deeper _) g;have I:Inv (gS CX P w K mg base N qual scope f cdv A outer s H E) [] (start N vs) H C:=Bf S hr.hd l R r x;refine q0S (M [] C (start N vs) H _ I O) (λfl m c=>?_) λe m c=>c;have j:∀{σ':St} {H':Hp} {v:V} {u:Value},Inv (gS CX P w K mg base N qual scope f cdv A outer s H E) [] σ' H' m->bu v u->Q v H'->CE outer P w H s Q u m:=
  fun{σ' H' v u} J p q=>⟨v,H',J.os,J.bare,J.base,J.hok,p,q⟩
 cases fl with
 |ret u=>
  obtain⟨v,σ',H',J,p,q⟩:=c;exact j J p q
 |next=>
  obtain⟨σ',H',J,q⟩:=c;exact j (v:=V.non) (u:=Value.none) J rfl q
 |brk=>
  obtain⟨_,_,_,q⟩:=c;exact False.elim q
 |cont=>
  obtain⟨_,_,_,q⟩:=c;exact False.elim q
section
variable {X:Cx}{x:Str}{p pos:Pos}{e:Expr}{es:NK}{t:TA}{id T:String}{r:List V->Hp->VK->Prop}
def Ji(r:List V->Hp->VK->Prop)(t:TA):TE:=λσ H Q=>t σ H λvs H1=>r vs H1 Q
theorem av(hc:g_ X (.builtin id) r)(hg:Gl X x)(hm:X.mg x=none)(hv:bootBuiltins x=some (.builtin id))(ha:PA X (e::es) t)(hn:autoParam (x≠"__name__") zz1._auto_1)(hdb:autoParam ((x==("__debug__":Str))=false) zz1._auto_1)
  (he:autoParam (starEach (e::es) X.env=(false,eval e X.env)::starEach es X.env) zz0._auto_1) (hpl:autoParam ((backTo pos (starEach es X.env)).any (·.1)=false) zz0._auto_1):PE X (.Call (.Name x p) (e::es) [] pos) (Ji r t):=by
 intro a s σ H Q I h;refine wpAny_Call_Name_kw (fC I hg hm hv ?_ hn hdb);exact PyProof.Rows.callWith_builtin1 (bV (ha pos a s σ H _ I h) λus b ⟨vs,k,j,c,g⟩=>hc a b σ k vs us Q j c g) he hpl
theorem eG(hc:g_ X (.type T) r)(hg:Gl X x)(hm:X.mg x=none)(hv:bootBuiltins x=some (.type T))(ha:PA X (e::es) t)(hn:autoParam (x≠"__name__") zz1._auto_1)(hdb:autoParam ((x==("__debug__":Str))=false) zz1._auto_1)
  (he:autoParam (starEach (e::es) X.env=(false,eval e X.env)::starEach es X.env) zz0._auto_1) (hpl:autoParam ((backTo pos (starEach es X.env)).any (·.1)=false) zz0._auto_1):PE X (.Call (.Name x p) (e::es) [] pos) (Ji r t):=by
 intro a s σ H Q I h;refine wpAny_Call_Name_kw (fC I hg hm hv ?_ hn hdb);exact PyProof.Rows.callWith_type1 (bV (ha pos a s σ H _ I h) λus b ⟨vs,k,j,c,g⟩=>hc a b σ k vs us Q j c g) he hpl
end
end L2
namespace HT
open PySem PyProof.Rows
section
variable {prog:NE}{w:NH}{A:NG}{E:Nt}{s:Ny}
theorem cat_tup{t:Addr}{vs ws:Nz}{Q:Nt}(ht:IsTup s.heap t vs.toArray)(hb:IsTup s.heap b ws.toArray)(hv:vs≠[])
  (h1:ws=[]->Q (.ref t) s) (h2:ws≠[]->Q (.ref s.heap.objs.size) {s with heap:=s.heap.push {cls:=.type "tuple",data:=.seq (vs++ws).toArray} })
  (hsz:vs.length+ws.length<=sizeLine):wpAny (model prog w) A (binaryOp .Add (.ref t) (.ref b)) Q E s:=by
 obtain⟨⟨cls,u,data,o⟩,m,r,n,q⟩:=id ht;obtain⟨⟨cls2,k,data2,c⟩,a,j,p,g⟩:=id hb;simp only at r q j g;subst r q j g;have e:vs.toArray++ws.toArray=(vs++ws).toArray:=by simp
 by_cases l:ws=[]
 ·exact concat_meets ⟨_,m,rfl⟩ ⟨_,a,rfl⟩ noFill_tuple_add seq_tuple_add PySem.F.slot_tuple_add PySem.F.entry_tuple_add (PySem.F.args_tuple_add_2 _ _)
   (tuple_addW1 t b vs.toArray ws.toArray n p u k o c (by simpa using hv) (by simp[l])) ⟨m,a,h1 l⟩
 ·refine concat_meets ⟨_,m,rfl⟩ ⟨_,a,rfl⟩ noFill_tuple_add seq_tuple_add PySem.F.slot_tuple_add PySem.F.entry_tuple_add (PySem.F.args_tuple_add_2 _ _)
   (tuple_addW2 t b vs.toArray ws.toArray n p u k o c (by simpa using hv) (by simpa using l) (by rw[MG,MG];exact hsz)) ⟨m,a,?_⟩
  rw[e];exact h2 l
def sIx(n d:Nat):Option Int->Nat
 |none=>d
 |some v=>if v<0 then(v+(n:Int)).toNat else min v.toNat n
theorem sIx_none(n d:Nat):sIx n d none=d:=rfl
theorem sIx_nat(n d k:Nat):sIx n d (some (k:Int))=min k n:=by
 show(if(k:Int)<0 then((k:Int)+(n:Int)).toNat else min (k:Int).toNat n)=min k n;rw[q06 ⋯,MI]
theorem sIx_le(n d:Nat)(hd:d<=n)(o:Option Int):sIx n d o<=n:=by
 cases o with
 |none=>exact hd
 |some v=>
  show(if v<0 then(v+(n:Int)).toNat else min v.toNat n)<=n
  by_cases a:v<0
  ·rw[q07 a];omega
  ·rw[q06 a];exact Nat.min_le_right _ _
theorem AD(v:Int)(n d:Nat):(if v<0 then max (v+(n:Int)) 0 else min v (n:Int))=((sIx n d (some v):Nat):Int):=by
 show(if v<0 then max (v+(n:Int)) 0 else min v (n:Int))=(((if v<0 then(v+(n:Int)).toNat else min v.toNat n):Nat):Int)
 by_cases a:v<0
 ·simp only[q07 a];omega
 ·simp only[q06 a];omega
theorem ym(lo hi:Option Int)(n:Nat):Builtin.Slice.sliceAdjust lo hi 1 (n:Int)=(((sIx n 0 lo:Nat):Int),((sIx n n hi:Nat):Int)):=by
 have h1:¬ ((1:Int)<0):=by omega
 unfold Builtin.Slice.sliceAdjust;simp only[h1,if_false];refine Prod.ext ?_ ?_
 ·cases lo with
  |none=>rfl
  |some v=>exact AD v n 0
 ·cases hi with
  |none=>rfl
  |some v=>exact AD v n n
theorem yK(i j:Nat):Builtin.Slice.slicePlaces (i:Int) (j:Int) 1=j-i:=by
 unfold Builtin.Slice.slicePlaces;have h1:(1:Int)>0:=by omega
 simp only[h1,if_true,Int.ediv_one]
 split<;>omega
theorem qF{Q:Option Int->Shared->Prop}(p:IsPart v o)(h:Q o s):wpAny (model prog w) A (Builtin.Slice.slicePartIndex v) Q E s:=by
 cases p with
 |none=>exact slicePart_none h
 |int i t=>exact slicePart_int h
theorem iL{sl:Addr}{vl vu:Value}{lo hi:Option Int}{n:Nat}{Q:Int×Int×Nat->Shared->Prop}(hs:s.heap.IsSliceOf sl vl vu .none)(pl:IsPart vl lo)(pu:IsPart vu hi)
  (h:Q (((sIx n 0 lo:Nat):Int),1,sIx n n hi-sIx n 0 lo) s):wpAny (model prog w) A (Builtin.Slice.sliceApplied (.ref sl) (pure (n:Int))) Q E s:=by
 obtain⟨os,a,hcs,b⟩:=id hs;unfold Builtin.Slice.sliceApplied Builtin.Slice.sliceFields;refine q04 (q04 (wpAny_field a b (x:=vl) rfl (q04 (wpAny_field a b (x:=vu) rfl (q04 (wpAny_field a b (x:=.none) rfl (q05 ?_)))))));refine q04 (slicePart_none ?_);show wpAny _ _ (if((1:Int)==0)=true then _ else _) _ _ s;rw[q06 nofun];refine q04 (qF pl (q04 (qF pu (q04 (q05 ?_)))));show wpAny _ _ (match Builtin.Slice.sliceAdjust lo hi 1 (n:Int) with | (lo,hi)=>pure (lo,(1:Int),Builtin.Slice.slicePlaces lo hi 1)) _ _ s;rw[ym lo hi n];show wpAny _ _ (pure (((sIx n 0 lo:Nat):Int),(1:Int),Builtin.Slice.slicePlaces ((sIx n 0 lo:Nat):Int) ((sIx n n hi:Nat):Int) 1)) _ _ s;rw[yK];exact q05 h
theorem El(xs:Array Value)(i k:Nat):((List.range k).filterMap fun(m:Nat)=>xs[((i:Int)+(m:Int)*1).toNat]?).toArray=((xs.toList.drop i).take k).toArray:=by
 have e:(fun(m:Nat)=>xs[((i:Int)+(m:Int)*1).toNat]?)=λm=>xs[i+m]?:=by
  funext m
  have:((i:Int)+(m:Int)*1).toNat=i+m:=by omega
  rw[this]
 rw[e];have:=pick_run xs i k;rw[List.filterMap_map]at this;have a:((λx=>xs[x]?)∘λx=>i+x)=λm=>xs[i+m]?:=rfl;rw[a]at this;rw[this]
theorem getItem_tuple_cut{t sl:Addr}{items:Array Value}{vl vu:Value}{lo hi:Option Int}{Q:Nt}(ht:IsTup s.heap t items)(hs:s.heap.IsSliceOf sl vl vu .none)(pl:IsPart vl lo)(pu:IsPart vu hi)
  (hw:¬ (sIx items.size 0 lo=0/\sIx items.size items.size hi=items.size))
  (h:Q (.ref s.heap.objs.size) {s with heap:=s.heap.push {cls:=.type "tuple",data:=.seq ((items.toList.drop (sIx items.size 0 lo)).take (sIx items.size items.size hi-sIx items.size 0 lo)).toArray} })
  (hsz:items.size<=sizeLine):wpAny (model prog w) A (getItem (.ref t) (.ref sl)) Q E s:=by
 have a:sizeOk (.seq ((items.toList.drop (sIx items.size 0 lo)).take (sIx items.size items.size hi-sIx items.size 0 lo)).toArray):=by
  show((items.toList.drop (sIx items.size 0 lo)).take (sIx items.size items.size hi-sIx items.size 0 lo)).toArray.size<=sizeLine;rw[MG,Nb,Nc,Array.length_toList];omega
 have hj:sIx items.size items.size hi<=items.size:=sIx_le _ _ (MW _) hi;obtain⟨j,b,e,hds⟩:=id hs;have g:s.TypeIs (.ref sl) "slice":=⟨j,b,e⟩;unfold getItem
 try with_reducible refine q0T ?_
 first | refine q04 (q05 ?_) | skip
 refine q04 (wpAny_sequenceKey ht.typeIs nofun ?_);refine q04 (wpAny_callSpecial?_slot (name:=Str.ofString "__getitem__") ht.typeIs PyProof.Rows.slot_tuple_getitem
  (wpAny_call_entry PyProof.Rows.slot_tuple_getitem ht.typeIs entry_tuple_getitem ?_ (args_tuple_getitem _ _)))
 show wpAny _ _ (Builtin.Tuple.tupleItemsOf (.ref t) >>= _) _ _ s;refine q04 (tupleItemsOf_ ht ?_);refine q04 (wpAny_typeOf g ?_);rw[q07 nofun];refine q04 (iL hs pl pu ?_);have c:¬ ((((sIx items.size 0 lo:Nat):Int)==0&&(1:Int)==1&&(sIx items.size items.size hi-sIx items.size 0 lo)==items.size)=true):=by
  intro q;rw[q0L,q0L]at q;have q1:((sIx items.size 0 lo:Nat):Int)=0:=eq_of_beq q.1.1;have q2:sIx items.size items.size hi-sIx items.size 0 lo=items.size:=eq_of_beq q.2;exact hw ⟨⋯,⋯⟩
 show wpAny _ _ (if(((sIx items.size 0 lo:Nat):Int)==0&&(1:Int)==1&&(sIx items.size items.size hi-sIx items.size 0 lo)==items.size)=true then _ else _) _ _ s;rw[q06 c,El]
 first
  |exact q04 (m:=Builtin.Tuple.tupleExact _) (wpAny_newObj_type (q05 ⟨_,rfl,q05 h⟩) a)
  |exact q04 (m:=Builtin.Tuple.tupleExact _) (wpAny_newObj_type (q04 (q05 (q05 ⟨_,rfl,q05 h⟩))) a)
  |exact q04 (q04 (m:=Builtin.Tuple.tupleExact _) (wpAny_newObj_type (q05 (q05 ⟨_,rfl,q05 h⟩)) a))
  |exact q04 (q04 (m:=Builtin.Tuple.tupleExact _) (wpAny_newObj_type (q05 ⟨_,rfl,q05 h⟩) a))
end
end HT
namespace L2
open PySem PySem.Spec PyProof.Rows
abbrev TO:=St->Hp->(Option Int->Hp->Prop)->Prop
def PO(X:Cx)(e:Option Expr)(t:TO):Prop:=
 ∀(pins:Nv) (s:Ny) (σ:St) (H:Hp) (Q:Option Int->Hp->Prop),Inv X pins σ H s->t σ H Q ->
  wpAny (model X.prog X.w) X.A (evalPart e X.env) (λu s'=>∃o H',Inv X pins σ H' s'/\IsPart u o/\Q o H') X.xe s
def v9:TO:=λ_ H Q=>Q none H
def EN(t:TE):TO:=λσ H Q=>t σ H λx H1=>∃i,x=.int i/\Q (some i) H1
section
variable {X:Cx}{e:Expr}{te:TE}{lo hi:Option Expr}{tl th:TO}{pos p2:Pos}
theorem dN:PO X none v9:=by
 intro pins s σ H Q I h;rw[evalPart_none];exact q05 ⟨none,H,I,.none,h⟩
theorem cW(h:PE X e te):PO X (some e) (EN te):=by
 intro a s σ H Q I hw;rw[evalPart_some];refine bV (h a s σ H _ I hw) λu s1 ⟨x,j,g,b,c⟩=>?_;obtain⟨i,rfl,q⟩:=c;obtain⟨t,rfl⟩:=b;exact⟨some i,j,g,.int i t,q⟩
def Ii(X:Cx)(r:V->Option Int->Option Int->Hp->VK->Prop):Prop:=
 ∀(pins:Nv) (s:Ny) (σ:St) (H:Hp) (x:V) (v vl vu:Value) (lo hi:Option Int) (sl:Addr) (Q:VK),Inv X pins σ H s->bu x v->s.heap.IsSliceOf sl vl vu .none->IsPart vl lo->IsPart vu hi->r x lo hi H Q ->
  ∃T id,typeLookup (.type T) "__getitem__"=pure (some (.builtin id))/\s.TypeIs v T/\wpAny (model X.prog X.w) X.A (getItem v (.ref sl)) (EP X pins σ Q) X.xe s
def JB(r:V->Option Int->Option Int->Hp->VK->Prop)(te:TE)(tl th:TO):TE:=λσ H Q=>te σ H λx H1=>tl σ H1 λl H2=>th σ H2 λu H3=>r x l u H3 Q
theorem cJ(hr:Ii X r)(he:PE X e te)(hl:PO X lo tl)(hu:PO X hi th):PE X (.Subscript e (.Slice lo hi none p2) pos) (JB r te tl th):=by
 intro a s σ H Q I h;refine Subscript_ (bV (he a s σ H _ I h) λv k ⟨x,S,O,m,p⟩=>?_);refine wpAny_Slice (bV (hl a k σ S _ O p) λvl j ⟨l,R,M,B,o⟩=>bV (hu a j σ R _ M o) λvu c ⟨u,g,L,y,n⟩=>?_);rw[evalPart_none];refine q05 ?_;have J:Inv X a σ g {c with heap:=c.heap.push {cls:=.type "slice",data:=.fields #[vl,vu,.none]} }:=L.kept (t':=c.toks) λb ob q=>Mz _ q;obtain⟨T,id,G,C,D⟩:=hr a {c with heap:=c.heap.push {cls:=.type "slice",data:=.fields #[vl,vu,.none]} } σ g x v vl vu l u c.heap.objs.size Q J m (Heap.IsSliceOf.new ..) B y n;show wpAny (model X.prog X.w) X.A (subscriptTail e (.Slice lo hi none p2) v (.ref c.heap.objs.size)) (EP X a σ Q) X.xe {c with heap:=c.heap.push {cls:=.type "slice",data:=.fields #[vl,vu,.none]} };exact tail_any (ops:=[.ref c.heap.objs.size,v]) C G D (by with_unfolding_all rfl)
def fW(xs:List V)(lo hi:Option Int):List V:=(xs.drop (HT.sIx xs.length 0 lo)).take (HT.sIx xs.length xs.length hi-HT.sIx xs.length 0 lo)
theorem ic(xs:List V)(lo hi:Option Int):(fW xs lo hi).length<=xs.length:=by
 unfold fW;rw[Nb,Nc];omega
def HY(K:Nu):V->Option Int->Option Int->Hp->VK->Prop:=λx lo hi H Q=>∃a xs,x=.ref a/\aZ K H a xs /\
 ¬ (HT.sIx xs.length 0 lo=0/\HT.sIx xs.length xs.length hi=xs.length)/\∀p,H p=none->Q (.ref p) (ay H p (.tup (fW xs lo hi)))
theorem oF:Ii X (HY X.K):=by
 intro pins s σ H x v vl vu lo hi sl Q I rx hs pl pu h;obtain⟨a,e,rfl,l,m,q⟩:=h;cases rx;obtain⟨g,r,k,j⟩:=I.tuple l;have c:g.toArray.size=e.length:=by rw[MG];exact r.length.symm
 refine⟨"tuple",_,PyProof.Rows.slot_tuple_getitem.lookup,k.typeIs,?_⟩;refine HT.getItem_tuple_cut k hs pl pu (by rw[c];exact m) ?_ (by rw[c];exact j);rw[c];refine⟨.ref s.heap.objs.size,_,I.laid (t':=s.toks) (o:=.tup (fW e lo hi)) (λb ob q=>Mz _ q) (MW _) ?_,rfl,q _ (I.hok.fresh (MW _))⟩;exact⟨M6 (ic e lo hi) j,_,(r.drop (HT.sIx e.length 0 lo)).take (HT.sIx e.length e.length hi-HT.sIx e.length 0 lo),IsTup.new _ _⟩
def Av(K:Nu):R2:=λx y H Q=>∃a b xs ys,x=.ref a/\y=.ref b/\aZ K H a xs/\aZ K H b ys/\xs≠[]/\xs.length+ys.length<=sizeLine /\
 (ys=[]->Q (.ref a) H)/\(ys≠[]->∀p,H p=none->Q (.ref p) (ay H p (.tup (xs++ys))))
theorem bo.nil_iff(r:bo xs us):us=[]↔xs=[]:=by
 cases r with
 |nil=>simp
 |cons _ _=>simp
theorem cB:bc X (binaryOp .Add) (Av X.K):=by
 intro pins s σ H x y v u Q I rx ry h;obtain⟨a,b,k,j,rfl,rfl,C,B,r,g,m,l⟩:=h;cases rx;cases ry;obtain⟨its,e,p,_⟩:=I.tuple C;obtain⟨its2,c,n,_⟩:=I.tuple B;refine HT.cat_tup p n (λz=>r (e.nil_iff.mp z)) (λz=>⟨.ref a,H,I,rfl,m (c.nil_iff.mp z)⟩) (λz=>?_) (by rw[<- e.length,<- c.length];exact g);refine⟨.ref s.heap.objs.size,_,I.laid (t':=s.toks) (o:=.tup (k++j)) (λb ob q=>Mz _ q) (MW _) ?_,rfl,l (λw=>z (c.nil_iff.mpr w)) _ (I.hok.fresh (MW _))⟩;exact⟨by rw[MV];exact g,_,e.append c,IsTup.new _ _⟩
end
def Ig(n:Nat)(i:Int):Option Nat:=if 0<=i then(if i<n then some i.toNat else none) else if -(n:Int)<=i then some (i+n).toNat else none
def gZ{α:Type}(xs:List α)(i:Int):Option α:=(Ig xs.length i).bind λj=>xs[j]?
theorem Gn{n:Nat}{i:Int}{j:Nat}(h:Ig n i=some j):seqIndex? i n=some j/\j<n/\-(n:Int)<=i/\i<n:=by
 unfold Ig at h
 by_cases a:0<=i
 ·rw[q07 a]at h
  by_cases h1:i<n
  ·rw[q07 h1]at h
   have e:i.toNat=j:=q0P h;exact⟨by rw[seqIndex_of a h1,e],⋯,⋯,h1⟩
  ·rw[q06 h1]at h;cases h
 ·rw[q06 a]at h
  by_cases h1:-(n:Int)<=i
  ·rw[q07 h1]at h
   have e:(i+n).toNat=j:=q0P h;exact⟨by rw[seqIndex_neg ⋯ h1,e],⋯,h1,⋯⟩
  ·rw[q06 h1]at h;cases h
theorem vY{α:Type}{xs:List α}{i:Int}{v:α}(h:gZ xs i=some v):∃j,seqIndex? i xs.length=some j/\xs[j]?=some v/\j<xs.length/\-(xs.length:Int)<=i/\i<xs.length:=by
 unfold gZ at h;cases e:Ig xs.length i with
 |none=>rw[e]at h;cases h
 |some j=>
  rw[e]at h;obtain⟨h1,h2,b,a⟩:=Gn e;exact⟨j,h1,h,h2,b,a⟩
theorem aU{α:Type}{xs:List α}{j:Nat}{v:α}(h:xs[j]?=some v):gZ xs (j:Int)=some v:=by
 have hj:j<xs.length:=(My.mp h).1;have e:Ig xs.length (j:Int)=some j:=by
  unfold Ig;rw[q07 ⋯,q07 ⋯];simp
 unfold gZ;rw[e];exact h
def Fw(b:Expr):Prop:=∀o i,subscripted b false o i=operate [o,i] (getItem o i)
def Hd(X:Cx)(r:R2):Prop:=
 ∀(value slice:Expr) (pins:Nv) (s:Ny) (σ:St) (H:Hp) (x y:V) (v u:Value) (Q:VK),Inv X pins σ H s->bu x v->bu y u->r x y H Q ->
  subscripted slice false v u=operate [v,u] (getItem v u)->wpAny (model X.prog X.w) X.A (subscriptTail value slice v u) (EP X pins σ Q) X.xe s
def J9(X:Cx)(id:String)(r:V->List V->Hp->VK->Prop):Prop:=
 ∀(pins:Nv) (s:Ny) (σ:St) (H:Hp) (x:V) (xs:List V) (v:Value) (us:Nz) (Q:VK),Inv X pins σ H s->bu x v->bo xs us->r x xs H Q ->
  wpAny (model X.prog X.w) X.A (call (.builtin id) (v::us)) (EP X pins σ Q) X.xe s
section
variable {X:Cx}{a b:Expr}{ta tb:TE}{pos:Pos}
theorem aE(hr:Hd X r)(ha:PE X a ta)(hb:PE X b tb)(hs:Fw b):PE X (.Subscript a b pos) (Ij r ta tb):=by
 intro c s σ H Q I h;exact Subscript_ (Hu ha hb I h λv u e x y l k j g q=>hr a b c e σ l x y v u Q k j g q (hs _ _))
def Fb(K:Nu):R2:=λx y H Q=>∃p xs i v,x=.ref p/\y=.int i/\aW K H p xs/\gZ xs i=some v/\Q v H
def B2(K:Nu):R2:=λx y H Q=>∃p xs i v,x=.ref p/\y=.int i/\aZ K H p xs/\gZ xs i=some v/\Q v H
def Hl:R2:=λx y H Q=>∃z i c,x=.str z/\y=.int i/\z.length<=sizeLine/\gZ z.cps.toList i=some c/\Q (.str ⟨#[c]⟩) H
theorem Ab:Hd X (Fb X.K):=by
 intro value slice a s σ H x y v u Q I rx ry h hs;obtain⟨p,xs,i,z,rfl,rfl,o,C,q⟩:=h;cases rx;obtain⟨t,rfl⟩:=ry;obtain⟨g,r,e,hz⟩:=I.list o;obtain⟨j,h1,h2,h3,G,D⟩:=vY C;obtain⟨w,m,c⟩:=r.get h2;have B:=r.length;have hn:=qh;have b:EP X a σ Q w s:=⟨z,H,I,c,q⟩
 by_cases l:0<=i
 ·have k:i.toNat=j:=by
   rw[seqIndex_of l D]at h1;exact q0P h1
  exact item_listR e.isList l ⋯ (by rw[k];simpa using m) b hs
 ·have k:(i+(g.toArray.size:Int)).toNat=j:=by
   rw[seqIndex_neg ⋯ G]at h1;rw[MG,<- B];exact q0P h1
  exact subscriptTail_builtinR (x:=w) e.isList.typeIs slot_list_getitem.lookup
   (wpAny_getItem_list_neg (Q:=λr n=>r=w/\EP X a σ Q r n) e.isList ⋯ (by rw[MG]<;>omega) ⋯ (by rw[k];simpa using m) ⟨rfl,b⟩) hs
theorem D6:Hd X (B2 X.K):=by
 intro value slice a s σ H x y v u Q I rx ry h hs;obtain⟨p,xs,i,z,rfl,rfl,k,m,q⟩:=h;cases rx;obtain⟨t,rfl⟩:=ry;obtain⟨its,r,e,hz⟩:=I.tuple k;obtain⟨j,h1,h2,h3,h4,h5⟩:=vY m;obtain⟨w,n,b⟩:=r.get h2;have l:=r.length;have hn:=qh;have c:EP X a σ Q w s:=⟨z,H,I,b,q⟩;exact subscriptTail_builtinR (x:=w) e.typeIs slot_tuple_getitem.lookup
  (getItem_tuple (j:=j) (Q:=λr g=>r=w/\EP X a σ Q r g) e ⋯ ⋯ (by rw[MG,<- l];exact h1) (by simpa using n) ⟨rfl,c⟩) hs
theorem oh:Hd X Hl:=by
 intro value slice pins s σ H x y v u Q I rx ry h hs;obtain⟨z,i,c,rfl,rfl,hz,b,q⟩:=h;obtain⟨t,rfl⟩:=rx;obtain⟨t',rfl⟩:=ry;obtain⟨j,h1,h2,h3,g,e⟩:=vY b;have a:z.cps.toList.length=z.length:=by simp[Str.length]
 rw[a]at h1 g e;have hn:=qh;exact tail_any (typeIs_str s z t) slot_str_getitem.lookup (getItem_str (c:=c) (by
  have l:decide (i < -(2 ^ 63:Int))=false:=q08 ⋯;have k:decide (i≥2 ^ 63)=false:=q08 ⋯;rw[l,k,Bool.or_false]) (by rw[h1];simpa using h2) ⟨.str ⟨#[c]⟩,H,I.tok _,⟨_,rfl⟩,q⟩) hs
def eM:V->Bool
 | .non=>true
 | .bl _=>true
 | .int _=>true
 | .str _=>true
 |_=>false
def l9:V->V->Bool
 | .non,.non=>true
 | .bl a,.bl b=>a==b
 | .bl a,.int b=>(if a then 1 else 0)==b
 | .int a,.bl b=>a==(if b then 1 else 0)
 | .int a,.int b=>a==b
 | .str a,.str b=>a==b
 |_,_=>false
theorem fU(ry:bu y u)(rx:bu x v)(fy:eM y=true)(fx:eM x=true):SeqAt.EqAt A s u v (l9 y x):=by
 cases y with
 |non=>
  cases ry;cases x with
  |non=>cases rx;exact SeqAt.EqAt.same _
  |bl b=>cases rx;exact SeqAt.EqAt.none_bool b
  |int b=>obtain⟨t,rfl⟩:=rx;exact SeqAt.EqAt.none_int b t
  |str b=>obtain⟨t,rfl⟩:=rx;exact SeqAt.EqAt.none_str b t
  |_=>exact q0N (show false=true from fx) MY
 |bl a=>
  cases ry;cases x with
  |non=>cases rx;exact SeqAt.EqAt.bool_none a
  |bl b=>cases rx;exact SeqAt.EqAt.bool_bool a b
  |int b=>obtain⟨t,rfl⟩:=rx;exact SeqAt.EqAt.bool_int a b t
  |str b=>obtain⟨t,rfl⟩:=rx;exact SeqAt.EqAt.bool_str a b t
  |_=>exact q0N (show false=true from fx) MY
 |int a=>
  obtain⟨c,rfl⟩:=ry;cases x with
  |non=>cases rx;exact SeqAt.EqAt.int_none a c
  |bl b=>cases rx;exact SeqAt.EqAt.int_bool a c b
  |int b=>obtain⟨t,rfl⟩:=rx;exact SeqAt.EqAt.int_int a c b t
  |str b=>obtain⟨t,rfl⟩:=rx;exact SeqAt.EqAt.int_str a c b t
  |_=>exact q0N (show false=true from fx) MY
 |str a=>
  obtain⟨c,rfl⟩:=ry;cases x with
  |non=>cases rx;exact SeqAt.EqAt.str_none a c
  |bl b=>cases rx;exact SeqAt.EqAt.str_bool a c b
  |int b=>obtain⟨t,rfl⟩:=rx;exact SeqAt.EqAt.str_int a c b t
  |str b=>obtain⟨t,rfl⟩:=rx;exact SeqAt.EqAt.str_str a c b t
  |_=>exact q0N (show false=true from fx) MY
 |_=>exact q0N (show false=true from fy) MY
def FS(x:V)(u:Value):Bool:=match u with
 | .none=>l9 .non x
 | .bool b=>l9 (.bl b) x
 | .int i _=>l9 (.int i) x
 | .str z _=>l9 (.str z) x
 |_=>false
theorem EL(r:bu y u)(f:eM y=true):FS x u=l9 y x:=by
 cases y with
 |non=>cases r;rfl
 |bl b=>cases r;rfl
 |int i=>obtain⟨t,rfl⟩:=r;rfl
 |str z=>obtain⟨t,rfl⟩:=r;rfl
 |_=>exact q0N (show false=true from f) MY
theorem vQ:∀{xs:List V} {us:Nz},bo xs us->xs.all eM=true->us.any (FS x)=xs.any λy=>l9 y x
 |_,_,.nil,_=>rfl
 |y::xs,u::us,.cons r t,f=>by
  rw[List.all_cons,q0L]at f;rw[List.any_cons,List.any_cons,EL r f.1,vQ t f.2]
theorem rB(rx:bu x v)(fx:eM x=true):∀{xs:List V} {us:Nz},bo xs us->xs.all eM=true->∀u∈us,SeqAt.EqAt A s u v (FS x u)
 |_,_,.nil,_=>λu hu=>by cases hu
 |y::xs,u::us,.cons r t,f=>λu' hu=>by
  rw[List.all_cons,q0L]at f;rcases MO.mp hu with rfl | hu
  ·rw[EL r f.1];exact fU r rx f.1 fx
  ·exact rB rx fx t f.2 u' hu
def IN(x:V)(xs:List V):Bool:=xs.any λy=>l9 y x
def JY(K:Nu)(neg:Bool):R2:=λx y H Q=>∃p xs,y=.ref p/\(aW K H p xs\/aZ K H p xs)/\eM x=true/\xs.all eM=true/\Q (.bl (if neg then !IN x xs else IN x xs)) H
theorem vT:bc X (compareOp .NotIn) (JY X.K true):=by
 intro pins s σ H x y v u Q I rx ry h;obtain⟨p,xs,rfl,hq,e,fs,q⟩:=h;cases ry;rcases hq with hq | hq
 ·obtain⟨a,r,b,g⟩:=I.list hq
  refine SeqAt.notIn_listAt (FS x) b.isList (λw c=>rB rx e r fs w (by simpa using c)) ⟨.bl _,H,I,rfl,?_⟩;rw[show a.toArray.any (FS x)=a.any (FS x) by simp,vQ r fs];exact q
 ·obtain⟨a,r,b,g⟩:=I.tuple hq
  refine SeqAt.notIn_tupleAt (FS x) b (λw c=>rB rx e r fs w (by simpa using c)) ⟨.bl _,H,I,rfl,?_⟩;rw[show a.toArray.any (FS x)=a.any (FS x) by simp,vQ r fs];exact q
theorem mZ:g_ X (.builtin "len") (λxs H Q=>∃p ys,xs=[.ref p]/\(aW X.K H p ys\/aZ X.K H p ys)/\Q (.int ys.length) H):=by
 intro pins s σ H xs us Q I r h;obtain⟨p,ys,rfl,hq,q⟩:=h;obtain⟨u,rfl,g⟩:=xj r;cases g;have hn:=qh;rcases hq with hq | hq
 ·obtain⟨e,b,c,j⟩:=I.list hq
  have a:=b.length;exact Calls.call_len_list c.isList (by simp only[MG]<;>omega) ⟨.int ys.length,H,I.tok _,⟨s.toks+1,by rw[MG,a]⟩,q⟩
 ·obtain⟨e,b,c,j⟩:=I.tuple hq
  have a:=b.length;exact len_tuple c (by simp only[MG]<;>omega) ⟨.int ys.length,H,I.tok _,⟨s.toks+1,by rw[MG,a]⟩,q⟩
theorem bb:g_ X (.builtin "len") (λxs H Q=>∃z,xs=[.str z]/\z.length<=sizeLine/\Q (.int z.length) H):=by
 intro pins s σ H xs us Q I r h;obtain⟨z,rfl,hz,q⟩:=h;obtain⟨u,rfl,t,rfl⟩:=xj r;have hn:=qh;exact len_str ⋯ ⟨.int z.length,H,I.tok _,⟨_,rfl⟩,q⟩
theorem cV:g_ X (.type "list") (λxs H Q=>∃p ys,xs=[.ref p]/\(aW X.K H p ys\/aZ X.K H p ys)/\∀l,H l=none->Q (.ref l) (ay H l (.lst ys))):=by
 intro k s σ H xs us Q I r h;obtain⟨p,ys,rfl,hq,q⟩:=h;obtain⟨u,rfl,G⟩:=xj r;cases G;have x:∀(a:Nz),bo ys a->ys.length<=sizeLine->∀(c:Heap) (j:Nat),(∀b o',s.heap.get? b=some o'->c.get? b=some o') ->
   c.get? s.heap.objs.size=some {cls:=.type "list",dict:=none,data:=.seq a.toArray j,slots:=#[]}->EP X k σ Q (.ref s.heap.objs.size) {s with heap:=c }:=λa g m c j kp e=>
  ⟨.ref s.heap.objs.size,_,I.laid (t':=s.toks) kp (MW _) (show bM X.prog X.w _ c _ (.lst ys) from⟨m,a,j,g,e⟩),rfl,q _ (I.hok.fresh (MW _))⟩
 rcases hq with hq | hq
 ·obtain⟨a,g,y,m⟩:=I.list hq
  have v:=g.length;obtain⟨o,B,D,n,C⟩:=y.isList;exact call_list_seq p (.inl rfl) B D C (λc j kp e=>x a g m c j kp e) (by simp only[MG]<;>omega)
 ·obtain⟨a,g,y,m⟩:=I.tuple hq
  have v:=g.length;obtain⟨o,B,D,n,C⟩:=y;exact call_list_seq p (.inr rfl) B D C (λc j kp e=>x a g m c j kp e) (by simp only[MG]<;>omega)
theorem sS:g_ X (.type "tuple") (λxs H Q=>∃p ys,xs=[.ref p]/\((aW X.K H p ys/\∀l,H l=none->Q (.ref l) (ay H l (.tup ys)))\/(aZ X.K H p ys/\Q (.ref p) H))):=by
 intro a s σ H xs us Q I r h;obtain⟨p,ys,rfl,h⟩:=h;obtain⟨u,rfl,x⟩:=xj r;cases x;rcases h with⟨m,q⟩ | ⟨m,q⟩
 ·obtain⟨c,j,k,n⟩:=I.list m
  have hlen:=j.length;refine call_tuple_list k.isList (λg kp=>?_) (by simp only[MG]<;>omega);have v:Inv X a σ H {s with heap:=g }:=I.kept (t':=s.toks) kp;have y:Inv X a σ (ay H g.objs.size (.tup ys)) {s with heap:=g.push {cls:=.type "tuple",data:=.seq c.toArray} }:=
   v.laid (t':=s.toks) (λb o e=>Mz _ e) (MW _) (show bM X.prog X.w _ _ _ (.tup ys) from⟨n,c,j,IsTup.new _ _⟩)
  exact⟨.ref g.objs.size,_,y,rfl,q _ (v.hok.fresh (MW _))⟩
 ·obtain⟨c,j,k,n⟩:=I.tuple m
  exact call_tuple_same k ⟨.ref p,H,I,rfl,q⟩
def JX(K:Nu)(T:String)(x:V)(H:Hp):Prop:=match x with
 | .str _=>T="str"
 | .int _=>T="int"
 | .ref p=>(T="list"/\∃xs,aW K H p xs)\/(T="tuple"/\∃o,K.lookup p=some o/\o.cls=.type "tuple"/\o.dict=none) \/
   (T="dict"/\((∃kvs,H p=some (.dK kvs))\/∃kvs,H p=some (.dT kvs)))\/(T="set"/\∃S n,H p=some (.set S n))
 |_=>False
theorem G'{pins:Nv}{σ:St}(I:Inv X pins σ H s)(r:bu x v)(ty:JX X.K T x H) :
  s.TypeIs v T/\∀a,v=.ref a->∃ob,s.heap.get? a=some ob/\ob.dict=none:=by
 cases x with
 |str z=>
  obtain⟨t,rfl⟩:=r;cases(show T="str" from ty);exact⟨typeIs_str s z t,λ_ e=>nomatch e⟩
 |int i=>
  obtain⟨t,rfl⟩:=r;cases(show T="int" from ty);exact⟨typeIs_int s i t,λ_ e=>nomatch e⟩
 |ref p=>
  cases r;rcases ty with⟨rfl,xs,q⟩ | ⟨rfl,o,b,u,k⟩ | ⟨rfl,b⟩ | ⟨rfl,S,n,b⟩
  ·obtain⟨its,_,m,_⟩:=I.list q
   refine⟨m.isList.typeIs,λa e=>?_⟩;cases e;obtain⟨o,n,e,c,k,_⟩:=m;exact⟨o,e,k⟩
  ·refine⟨⟨o,I.kIn p o b,u⟩,λa e=>?_⟩
   cases e;exact⟨o,I.kIn _ o b,k⟩
  ·have z:∃o,s.heap.get? p=some o/\o.ExactDict:=by
    rcases b with⟨j,b⟩ | ⟨j,b⟩
    ·obtain⟨_,_,_,_,o,_,_,e,g,_⟩:=I.hok p _ b
     exact⟨o,e,g⟩
    ·obtain⟨_,_,_,_,o,_,_,e,g,_⟩:=I.hok p _ b
     exact⟨o,e,g⟩
   obtain⟨o,e,g⟩:=z;refine⟨⟨o,e,g.1⟩,λa l=>?_⟩;cases l;exact⟨o,e,g.2.1⟩
  ·obtain⟨o,_,_,_,e,g,_⟩:=I.hok p _ b
   refine⟨⟨o,e,g.1⟩,λa l=>?_⟩;cases l;exact⟨o,e,g.2.1⟩
 |_=>exact False.elim ty
def Ja(K:Nu)(T:String)(r:V->List V->Hp->VK->Prop)(to:TE)(t:TA):TE:=λσ H Q=>to σ H λx H1=>JX K T x H1/\t σ H1 λxs H2=>r x xs H2 Q
variable {o e:Expr}{es:NK}{to:TE}{t:TA}{name:Str}{apos cpos:Pos}{T id:String}{r:V->List V->Hp->VK->Prop}
theorem lM(pa:PlainAttrs T)(slot:Slot T name id)(hty:typeOf (.builtin id)=pure (.type "method_descriptor"))(hm:J9 X id r)(ho:PE X o to)(ha:PA X (e::es) t)
  (hbase:autoParam (attributeBase o name X.env (eval o X.env)=eval o X.env) zz0._auto_1)
  (hfew:autoParam (((backTo cpos (starEach (e::es) X.env)).all (λx=>!x.1)&&(backToKw cpos (keywordEach [] X.env)).all (λx=>x.1.isSome)
   && decide ((e::es).length+([]:List Keyword).length+(if([]:List Keyword).isEmpty then 0 else 1)<30))=true) zz0._auto_1)
  (hline:autoParam ((apos.endLine==cpos.line)=true) zz0._auto_1) (hs:autoParam (starEach (e::es) X.env=(false,eval e X.env)::starEach es X.env) zz0._auto_1) (hplain:autoParam ((backTo cpos (starEach es X.env)).any (·.1)=false) zz0._auto_1) :
  PE X (.Call (.Attribute o name apos) (e::es) [] cpos) (Ja X.K T r to t):=by
 intro a s σ H Q I h;refine wpAny_Call_method_late hbase hfew hline rfl (bV (ho a s σ H _ I h) λv k ⟨x,u,g,b,ty,n⟩=>?_);obtain⟨h1,h2⟩:=G' g b ty;refine⟨T,id,pa,slot,hty,h1,h2,?_⟩;have c:=ha cpos a k σ u _ g n;rw[hs]at c ⊢;refine Calls.callWith_builtin (by show(false||(backTo cpos (starEach es X.env)).any (·.1))=false;rw[hplain]<;>rfl) (Calls.evalArgs_plain ?_);exact bV c λus j ⟨vs,q,p,l,m⟩=>hm a j σ q x vs v us Q p b l m
end
def J4(X:Cx)(id:String)(r:V->List V->Hp->VK->Prop):Prop:=
 ∀(pins:Nv) (s:Ny) (σ:St) (H:Hp) (x:V) (xs:List V) (v:Value) (us:Nz) (Q:VK),Inv X pins σ H s->bu x v->bo xs us->r x xs H Q ->
  wpAny (model X.prog X.w) X.A (call (.builtin id) (v::us)) (EP X pins σ Q) X.xe s
theorem bo.one{x:V}{us:Nz}(h:bo [x] us):∃u,us=[u]/\bu x u:=by
 cases h with | cons r h=>cases h;exact⟨_,rfl,r⟩
theorem bo.two{x y:V}{us:Nz}(h:bo [x,y] us):∃u v,us=[u,v]/\bu x u/\bu y v:=by
 cases h with | cons r h=>obtain⟨u,rfl,q⟩:=bo.one h;exact⟨_,_,rfl,r,q⟩
theorem bo.zero:∀{us:Nz},bo [] us->us=[]
 |_,.nil=>rfl
section
variable {X:Cx}{pins:Nv}{σ:St}{H:Hp}{s:Ny}{l b:Addr}{xs ys zs:List V}
theorem Inv.lset{its its':Nz}{f:Array Value->Array Value}{t':Nat}(I:Inv X pins σ H s)(hH:H l=some (.lst xs))
  (e:s.heap.get? l=some {cls:=.type "list",data:=.seq its.toArray n}) (hf:f its.toArray=its'.toArray) (hv:bo ys its') (hz:ys.length<=sizeLine) :
  Inv X pins σ (ay H l (.lst ys)) {s with heap:=s.heap.update l (Obj.mapSeq f),toks:=t' }:=by
 have q:=PySem.IsL.update e f;rw[hf]at q;refine I.write (x:=l) (e:=l) (by rw[hH];exact trivial) (.inl rfl) (λb' u b a=>(ME s.heap (Obj.mapSeq f) (Ne.symm b)).trans a) ⟨_,q⟩ ?_;exact⟨hz,its',_,hv,q⟩
theorem Inv.lnew{its:Nz}{t':Nat}(I:Inv X pins σ H s)(hv:bo ys its)(hz:ys.length<=sizeLine) :
  Inv X pins σ (ay H s.heap.objs.size (.lst ys)) {s with heap:=s.heap.push {cls:=.type "list",data:=.seq its.toArray},toks:=t' }:=
 I.laid (λ_ _ q=>Mz _ q) (MW _) ⟨hz,its,0,hv,MF _ rfl⟩
theorem Inv.fresh(I:Inv X pins σ H s):H s.heap.objs.size=none:=I.hok.fresh (MW _)
theorem Inv.lstM(I:Inv X pins σ H s)(hH:H l=some (.lst xs)):xs.length<=sizeLine/\∃(its:Nz) (n:Nat),bo xs its/\xs.length=its.length/\s.heap.get? l=some {cls:=.type "list",data:=.seq its.toArray n}:=by
 obtain⟨z,its,n,r,e⟩:=I.hok l _ hH;exact⟨z,its,n,r,r.length,e⟩
theorem EW{n:Nat}(h:n<=sizeLine):Builtin.List.listTooLong n=false:=by
 unfold Builtin.List.listTooLong;exact q08 ⋯
end
section
variable {X:Cx}
def vo:V->List V->Hp->VK->Prop:=λx vs H Q=>∃l xs y,x=.ref l/\vs=[y]/\H l=some (.lst xs)/\xs.length<sizeLine/\Q .non (ay H l (.lst (xs++[y])))
theorem eO:J4 X "list.append" vo:=by
 intro pins s σ H x vs v us Q I rx rv h;obtain⟨l,xs,y,rfl,rfl,b,hz,q⟩:=h;cases rx;obtain⟨u,rfl,c⟩:=rv.one;obtain⟨z,a,n,r,hl,e⟩:=I.lstM b;refine call_meets F.slot_list_append ⟨_,e,rfl⟩ F.entry_list_append (F.args_list_append_2 _ _) (PySem.list_append l a.toArray n u (by rw[MG];omega)) ⟨e,?_⟩;refine⟨.non,_,I.lset (its':=a++[u]) b e (by simp) (r.append (.cons c .nil)) ?_,rfl,q⟩;rw[MV,q0U];omega
theorem q03{e:Expr}{es:List Expr}{to:TE}{t:TA}{apos cpos:Pos}(ho:PE X o to)(ha:PA X (e::es) t)
  (hbase:autoParam (attributeBase o "append" X.env (eval o X.env)=eval o X.env) zz0._auto_1)
  (hfew:autoParam (((backTo cpos (starEach (e::es) X.env)).all (λx=>!x.1)&&(backToKw cpos (keywordEach [] X.env)).all (λx=>x.1.isSome)
   && decide ((e::es).length+([]:List Keyword).length+(if([]:List Keyword).isEmpty then 0 else 1)<30))=true) zz0._auto_1)
  (hline:autoParam ((apos.endLine==cpos.line)=true) zz0._auto_1) (hs:autoParam (starEach (e::es) X.env=(false,eval e X.env)::starEach es X.env) zz0._auto_1) (hplain:autoParam ((backTo cpos (starEach es X.env)).any (·.1)=false) zz0._auto_1) :
  PE X (.Call (.Attribute o "append" apos) (e::es) [] cpos) (Ja X.K "list" vo to t):=lM PySem.F.plainAttrs_list PySem.F.slot_list_append PySem.F.type_list_append eO ho ha hbase hfew hline hs hplain
def vH:V->List V->Hp->VK->Prop:=λx vs H Q=>∃l b xs zs,x=.ref l/\vs=[.ref b]/\H l=some (.lst xs)/\H b=some (.lst zs)/\xs.length+zs.length<=sizeLine/\Q .non (ay H l (.lst (xs++zs)))
theorem Bd:J4 X "list.extend" vH:=by
 intro pins s σ H x vs v us Q I rx rv h;obtain⟨l,b,xs,zs,rfl,rfl,k,w,hz,q⟩:=h;cases rx;obtain⟨u,rfl,m⟩:=rv.one;cases m;obtain⟨z,c,n,r,hl,e⟩:=I.lstM k;obtain⟨z2,a,p,o,hl2,y⟩:=I.lstM w;have j:c.toArray.size+a.toArray.size<=sizeLine:=by rw[MG,MG];omega
 have g:¬ (!c.toArray.isEmpty&&Builtin.List.listTooLong (c.toArray.size+a.toArray.size))=true:=by
  rw[EW j,Bool.and_false];exact MY
 refine call_meets F.slot_list_extend ⟨_,e,rfl⟩ F.entry_list_extend (F.args_list_extend_2 _ _)
  (AutoSeq1.list_extend_list_list_0 l c.toArray n b a.toArray p g (by rw[MG];omega) ⋯) ⟨e,y,?_⟩
 refine⟨.non,_,I.lset (its':=c++a) k e (by simp) (r.append o) ?_,rfl,q⟩;rw[MV];omega
def G_:R2:=λx y H Q=>∃l b xs zs,x=.ref l/\y=.ref b/\H l=some (.lst xs)/\H b=some (.lst zs)/\xs.length+zs.length<=sizeLine/\∀p,H p=none->Q (.ref p) (ay H p (.lst (xs++zs)))
theorem yz:bc X (binaryOp .Add) G_:=by
 intro pins s σ H x y v u Q I rx ry h;obtain⟨l,b,xs,zs,rfl,rfl,j,k,hz,q⟩:=h;cases rx;cases ry;obtain⟨z,c,n,r,hl,e⟩:=I.lstM j;obtain⟨z2,a,n2,g,hl2,o⟩:=I.lstM k;refine PySem.P.add_list e o ?_ (by rw[MG,MG];omega);have m:c.toArray++a.toArray=(c++a).toArray:=by simp
 rw[m];exact⟨.ref _,_,I.lnew (t':=s.toks) (r.append g) (by rw[MV];omega),rfl,q _ I.fresh⟩
end
section
variable {κ:Type}[DecidableEq κ]
def cA(kvs:List (κ×V))(k:κ):Option V:=(kvs.find? λkv=>decide (kv.1=k)).map (·.2)
def cQ(kvs:List (κ×V))(k:κ)(v:V):List (κ×V):=
 if(kvs.any λkv=>decide (kv.1=k))=true then kvs.map (λkv=>if kv.1=k then(kv.1,v) else kv) else kvs++[(k,v)]
theorem c7{p:κ×V}{r:List (κ×V)}{k:κ}(e:p.1=k):cA (p::r) k=some p.2:=by simp[cA,List.find?_cons,e]
theorem c_{p:κ×V}{r:List (κ×V)}{k:κ}(e:¬ p.1=k):cA (p::r) k=cA r k:=by simp[cA,List.find?_cons,e]
theorem fS(k:κ):∀kvs:List (κ×V),(kvs.any λkv=>decide (kv.1=k))=(cA kvs k).isSome
 | []=>rfl
 |p::r=>by
  rw[List.any_cons]
  by_cases e:p.1=k
  ·simp only[c7 e,q09 e,Bool.true_or,Option.isSome_some]
  ·rw[c_ e,q08 e,Bool.false_or];exact fS k r
theorem xv(k j:κ)(y:V):∀kvs:List (κ×V),cA (kvs.map λkv=>if kv.1=k then(kv.1,y) else kv) j=(cA kvs j).map λx=>if j=k then y else x
 | []=>rfl
 |p::r=>by
  have ih:=xv k j y r;rw[M5]
  by_cases h:p.1=k
  ·rw[q07 h]
   by_cases e:p.1=j
   ·rw[c7 (p:=(p.1,y)) e,c7 e,Option.map_some,q07 (e.symm.trans h)]
   ·rw[c_ (p:=(p.1,y)) e,c_ e,ih]
  ·rw[q06 h]
   by_cases e:p.1=j
   ·rw[c7 (p:=p) e,c7 e,Option.map_some,q06 (λz=>h (e.trans z))]
   ·rw[c_ (p:=p) e,c_ e,ih]
theorem ur(k j:κ)(y:V):∀kvs:List (κ×V),cA kvs k=none->cA (kvs++[(k,y)]) j=if j=k then some y else cA kvs j
 | [],_=>by
  by_cases e:k=j
  ·rw[q07 e.symm];exact c7 (p:=(k,y)) e
  ·rw[q06 (λz=>e z.symm)];exact c_ (p:=(k,y)) e
 |p::r,hn=>by
  rw[List.cons_append];have hk:¬ p.1=k:=λz=>by rw[c7 z]at hn;cases hn
  rw[c_ hk]at hn;have ih:=ur k j y r hn
  by_cases e:p.1=j
  ·rw[c7 e,c7 e,q06 (λz=>hk (e.trans z))]
  ·rw[c_ e,c_ e,ih]
theorem nv(kvs:List (κ×V))(k j:κ)(y:V):cA (cQ kvs k y) j=if j=k then some y else cA kvs j:=by
 unfold cQ
 by_cases a:(kvs.any λb=>decide (b.1=k))=true
 ·rw[q07 a,xv]
  rw[fS]at a
  by_cases e:j=k
  ·obtain⟨x,c⟩:=Option.isSome_iff_exists.mp a
   rw[q07 e,e,c,Option.map_some,q07 rfl]
  ·rw[q06 e]
   cases cA kvs j with
   |none=>rfl
   |some x=>rw[Option.map_some,q06 e]
 ·rw[q06 a]
  refine ur k j y kvs ?_;rw[fS]at a;cases q:cA kvs k with
  |none=>rfl
  |some x=>rw[q]at a;exact(a rfl).elim
theorem ig(kvs:List (κ×V))(k:κ)(v:V):(cQ kvs k v).length<=kvs.length+1:=by
 unfold cQ
 split
 ·rw[MA];omega
 ·rw[MV,MK,List.length_nil];omega
theorem qM{kvs:List (κ×V)}{k:κ}(v:V)(h:cA kvs k=none):cQ kvs k v=kvs++[(k,v)]:=by
 unfold cQ;rw[fS,h];exact q06 nofun
theorem jK.isSome_eq(r:jK o u):o.isSome=u.isSome:=by
 cases o with
 |none=>cases u with
  |none=>rfl
  |some _=>exact(show False from r).elim
 |some _=>cases u with
  |none=>exact(show False from r).elim
  |some _=>rfl
theorem KV.val{kvs:List (κ×V)}{vs:List (κ×Value)}(r:KV kvs vs)(k:κ):jK (cA kvs k) (valueAt vs k):=by
 unfold KV at r
 induction r with
 |nil=>exact True.intro
 | @cons p q ps qs h t ih=>
  obtain⟨h1,h2⟩:=h
  by_cases e:p.1=k
  ·have a:q.1=k:=h1.symm.trans e
   have b:valueAt (q::qs) k=some q.2:=by simp[valueAt,List.find?_cons,a]
   rw[c7 e,b];exact h2
  ·have a:¬ q.1=k:=λz=>e (h1.trans z)
   have b:valueAt (q::qs) k=valueAt qs k:=by simp[valueAt,List.find?_cons,a]
   rw[c_ e,b];exact ih
theorem KV.any{kvs:List (κ×V)}{vs:List (κ×Value)}(r:KV kvs vs)(k:κ):(kvs.any λkv=>decide (kv.1=k))=vs.any λkv=>decide (kv.1=k):=by
 unfold KV at r
 induction r with
 |nil=>rfl
 |cons h t ih=>rw[List.any_cons,List.any_cons,ih,h.1]
theorem KV.repl{kvs:List (κ×V)}{vs:List (κ×Value)}(r:KV kvs vs)(k:κ){y:V}{u:Value}(ry:bu y u) :
  KV (kvs.map λkv=>if kv.1=k then(kv.1,y) else kv) (vs.map λkv=>if kv.1=k then(kv.1,u) else kv):=by
 unfold KV at r ⊢
 induction r with
 |nil=>exact .nil
 | @cons p q ps qs h t ih=>
  rw[M5,M5];refine .cons ?_ ih;obtain⟨h1,h2⟩:=h
  by_cases e:p.1=k
  ·rw[q07 e,q07 (h1.symm.trans e)];exact⟨h1,ry⟩
  ·rw[q06 e,q06 (λz=>e (h1.trans z))];exact⟨h1,h2⟩
theorem KV.put{kvs:List (κ×V)}{vs:List (κ×Value)}(r:KV kvs vs)(k:κ){y:V}{u:Value}(ry:bu y u):KV (cQ kvs k y) (stored vs k u):=by
 unfold cQ stored;rw[r.any k]
 by_cases e:(vs.any λa=>decide (a.1=k))=true
 ·rw[q07 e,q07 e];exact r.repl k ry
 ·rw[q06 e,q06 e];exact Paired.snoc r ⟨rfl,ry⟩
theorem KV.length{kvs:List (κ×V)}{vs:List (κ×Value)}(r:KV kvs vs):kvs.length=vs.length:=Paired.length r
end
theorem uh{u:Value}(r:bu (kV k) u):(cR P w).is k u=true:=by
 cases k with
 |inl i=>obtain⟨t,e⟩:=(show ∃t,u=Value.int i t from r);subst e;exact xH P w i t
 |inr x=>obtain⟨t,e⟩:=(show ∃t,u=Value.str x t from r);subst e;exact wS P w x t
theorem tI:∀{ks:List df} {us:Nz},bo (ks.map kV) us->ItemsAre (cR P w) ks us
 | [],_,r=>by rw[List.map_nil]at r;cases r;exact .nil
 |k::ks,_,r=>by
  rw[M5]at r;cases r with
  |cons h t=>exact .cons (uh h) (tI t)
abbrev KT(H:Hp):List (List df×V)->List (List df×Addr×Value)->Prop:=Paired λp q=>p.1=q.1/\H q.2.1=some (.tup (p.1.map kV))/\bu p.2 q.2.2
theorem KT.val(r:KT H kvs xs)(k:List df):jK (cA kvs k) ((atKey xs k).map (·.2)):=by
 induction r with
 |nil=>exact True.intro
 | @cons p q ps qs h t ih=>
  obtain⟨h1,_,h2⟩:=h
  by_cases e:p.1=k
  ·have a:q.1=k:=h1.symm.trans e
   have b:atKey (q::qs) k=some q.2:=by simp[atKey,List.find?_cons,a]
   rw[c7 e,b];exact h2
  ·have a:¬ q.1=k:=λz=>e (h1.trans z)
   have b:atKey (q::qs) k=atKey qs k:=by simp[atKey,List.find?_cons,a]
   rw[c_ e,b];exact ih
theorem KT.repl(r:KT H kvs xs)(k:List df){y:V}{u:Value}(ry:bu y u) :
  KT H (kvs.map λkv=>if kv.1=k then(kv.1,y) else kv) (xs.map (putAt k u)):=by
 induction r with
 |nil=>exact .nil
 | @cons p q ps qs h t ih=>
  rw[M5,M5];refine .cons ?_ ih;obtain⟨h1,h2,a⟩:=h;unfold putAt
  by_cases e:p.1=k
  ·rw[q07 e,q07 (h1.symm.trans e)];exact⟨h1,h2,ry⟩
  ·rw[q06 e,q06 (λz=>e (h1.trans z))];exact⟨h1,h2,a⟩
theorem KT.put(r:KT H kvs xs)(k:List df){b:Addr}{y:V}{u:Value}(hb:H b=some (.tup (k.map kV)))(ry:bu y u) :
  KT H (cQ kvs k y) (storedH xs k b u):=by
 have e:(kvs.any λa=>decide (a.1=k))=(atKey xs k).isSome:=by
  rw[fS,(r.val k).isSome_eq,Option.isSome_map]
 unfold cQ storedH;rw[e]
 by_cases q:(atKey xs k).isSome=true
 ·rw[q07 q,q07 q];exact r.repl k ry
 ·rw[q06 q,q06 q];exact Paired.snoc r ⟨rfl,hb,ry⟩
theorem KT.keeps{H':Hp}(r:KT H kvs xs)(ht:∀b ys,H b=some (.tup ys)->H' b=some (.tup ys)):KT H' kvs xs:=
 Paired.mapP r λ_ _ z=>⟨z.1,ht _ _ z.2.1,z.2.2⟩
section
variable {P:NE}{w:NH}{H:Hp}{h:Heap}{a:Addr}
theorem GI(ok:kZ P w H h)(e:Rd H a u):bM P w H h a u:=e.ok ok
theorem uc(ok:kZ P w H h)(e:Rd H a (.dK kvs)):kvs.length<=sizeLine/\(a==sysModules)=false/\∃vs,KV kvs vs/\h.DictOf (cR P w) a vs:=
 show bM P w H h a (.dK kvs) from GI ok e
theorem ET(ok:kZ P w H h)(e:H a=some (.dK kvs)):kvs.length<=sizeLine/\(a==sysModules)=false/\∃vs,KV kvs vs/\h.DictOf (cR P w) a vs:=uc ok (.inl e)
theorem vw{ks:List df}(ok:kZ P w H h)(e:H a=some (.tup (ks.map kV))):(tupleKind (cR P w)).is h ks a:=by
 obtain⟨_,b,r,o,h1,h2,n,c⟩:=(show bM P w H h a (.tup (ks.map kV)) from ok a _ e);exact⟨o,b.toArray,n,h1,h2,c,by simpa using tI r⟩
theorem xq(ok:kZ P w H h)(e:Rd H a (.dT kvs)):kvs.length<=sizeLine/\(a==sysModules)=false /\
  ∃xs,KT H kvs xs/\h.DictOfH (tupleKind (cR P w)) a xs:=by
 obtain⟨z,y,xs,r,o,j,k,h1,h2,g,c,b⟩:=(show bM P w H h a (.dT kvs) from GI ok e);refine⟨z,y,xs,r,o,j,k,h1,h2,g,c,λx hx=>?_,b⟩;have all:∀{l:List (List df×V)} {m:List (List df×Addr×Value)},KT H l m->∀x∈m,(tupleKind (cR P w)).is h x.1 x.2.1:=by
  intro l m q
  induction q with
  |nil=>intro x hx;exact nomatch hx
  | @cons p q ps qs hq t ih=>
   intro x hx;rcases MO.mp hx with e | hx
   ·subst e
    exact vw ok (by rw[<- hq.1];exact hq.2.1)
   ·exact ih x hx
 exact all r x hx
theorem IE(ok:kZ P w H h)(e:H a=some (.dT kvs)):kvs.length<=sizeLine/\(a==sysModules)=false /\
  ∃xs,KT H kvs xs/\h.DictOfH (tupleKind (cR P w)) a xs:=xq ok (.inl e)
end
def pS(H:Hp)(a:Addr)(y:V)(r:Option V):Prop:=
 (∃kvs k,Rd H a (.dK kvs)/\y=kV k/\r=cA kvs k)\/∃kvs k b,Rd H a (.dT kvs)/\y=.ref b/\H b=some (.tup (k.map kV))/\r=cA kvs k
def A5(H:Hp)(a:Addr)(y v:V)(H':Hp):Prop:=
 (∃kvs k,H a=some (.dK kvs)/\y=kV k/\kvs.length<sizeLine/\H'=ay H a (.dK (cQ kvs k v))) \/
 ∃kvs k b,H a=some (.dT kvs)/\y=.ref b/\H b=some (.tup (k.map kV))/\kvs.length<sizeLine/\H'=ay H a (.dT (cQ kvs k v))
theorem pS.t{H:Hp}{k:List df}(e:H a=some (.dT kvs))(eb:H b=some (.tup (k.map kV))):pS H a (.ref b) (cA kvs k):=.inr ⟨kvs,k,b,.inl e,rfl,eb,rfl⟩
theorem A5.t{H:Hp}{k:List df}{v:V}(e:H a=some (.dT kvs))(eb:H b=some (.tup (k.map kV)))(hl:kvs.length<sizeLine) :
  A5 H a (.ref b) v (ay H a (.dT (cQ kvs k v))):=.inr ⟨kvs,k,b,e,rfl,eb,hl,rfl⟩
section
variable {X:Cx}{pins:Nv}{σ:St}{H:Hp}{s:Ny}{a:Addr}{y v:V}{u r:Value}{o:Option V}{A:NG}{E:Nt}
theorem Inv.big(I:Inv X pins σ H s):sysModules<s.heap.objs.size:=by
 have h:mainGlobals<s.heap.objs.size:=(I.mod.glob.keeps I.bk).lt;exact Nat.lt_trans nofun h
theorem Bt{Q:Nt}(hu:A.units+1<cLine)(I:Inv X pins σ H s)(g:pS H a y (some v))(ry:bu y u)(h:∀w' s',Inv X pins σ H s'->bu v w'->Q w' s') :
  wpAny (model X.prog X.w) A (getItem (.ref a) u) Q E s:=by
 rcases g with⟨m,k,e,r,l⟩ | ⟨m,k,b,e,r,D,l⟩
 ·subst r
  obtain⟨z,C,vs,j,w⟩:=uc I.hok e;obtain⟨w',n,c⟩:=jK.some_of (v:=v) (o:=valueAt vs k) (by rw[l];exact j.val k);exact wpAny_getItem_of (uh ry) w.mapOf n (h w' _ (I.tok _) c)
 ·subst r
  cases(show u=Value.ref b from ry);obtain⟨z,C,x,j,w⟩:=xq I.hok e;obtain⟨w',n,c⟩:=jK.some_of (v:=v) (o:=(atKey x k).map (·.2)) (by rw[l];exact j.val k);obtain⟨p,B,q⟩:=M3.mp n;refine wpAny_getItem_heap (tupleKind_room_in1 hu) (vw I.hok D) w B ?_;rw[q];exact h w' _ (I.tok _) c
theorem Gb{Q:Nt}(hu:A.units+1<cLine)(I:Inv X pins σ H s)(g:pS H a y o)(ry:bu y u)(h:∀s',Inv X pins σ H s'->Q (.bool (!o.isSome)) s') :
  wpAny (model X.prog X.w) A (compareOp .NotIn u (.ref a)) Q E s:=by
 rcases g with⟨j,k,e,n,l⟩ | ⟨j,k,b,e,n,r,l⟩
 ·subst n
  obtain⟨z,m,vs,c,p⟩:=uc I.hok e;refine wpAny_notIn_of (uh ry) m p.mapOf ?_;rw[<- (c.val k).isSome_eq,<- l];exact h _ (I.tok _)
 ·subst n
  cases(show u=Value.ref b from ry);obtain⟨z,m,xs,c,p⟩:=xq I.hok e;refine wpAny_notIn_heap (tupleKind_room_in1 hu) (vw I.hok r) m p ?_;have q:=(c.val k).isSome_eq;rw[Option.isSome_map]at q;rw[<- q,<- l];exact h _ (I.tok _)
theorem pY{t':Nat}{ob:HO}(I:Inv X pins σ H s)(mu:IF (H a))(hs:Heap.SameBut a s.heap h')(he:∃q,h'.get? a=some q)(new:bM X.prog X.w (ay H a ob) h' a ob) :
  Inv X pins σ (ay H a ob) {s with heap:=h',toks:=t' }:=
 I.write (x:=a) (e:=a) mu (.inl rfl) (λb q hb z=>(hs.2 b hb).trans z) he new
theorem yj{h':Heap}{kvs:List (df×V)}(z:kvs.length<=sizeLine)(hd:(a==sysModules)=false)(rel:KV kvs vs)(dd:h'.DictOf (cR P w) a vs) :
  bM P w H' h' a (.dK kvs):=⟨z,hd,vs,rel,dd⟩
theorem B'{Q:Unit->Shared->Prop}(hu:A.units+1<cLine)(I:Inv X pins σ H s)(g:A5 H a y v H')(ry:bu y u)(rv:bu v r)(h:∀s',Inv X pins σ H' s'->Q () s') :
  wpAny (model X.prog X.w) A (setItem (.ref a) u r) Q E s:=by
 rcases g with⟨m,k,e,C,l,D⟩ | ⟨m,k,b,e,C,M,l,D⟩
 ·subst C D
  obtain⟨z,B,vs,j,G⟩:=ET I.hok e;have p:vs.length<=sizeLine:=by rw[<- j.length];exact z
  have x:(cQ m k v).length<=sizeLine:=by have:=ig m k v;omega
  refine wpAny_setItem_pairs (hsz:=p) (uh ry) G λJ n w=>h _ ?_;have R:∃q,J.get? a=some q:=let ⟨q,_,_,o,_⟩:=n;⟨q,o⟩
  exact pY I (by rw[e];exact True.intro) w R (yj x B (j.put k rv) n)
 ·subst C D
  cases(show u=Value.ref b from ry);obtain⟨z,B,O,j,G⟩:=IE I.hok e;have p:O.length<=sizeLine:=by rw[<- Paired.length j];exact z
  have x:(cQ m k v).length<=sizeLine:=by have:=ig m k v;omega
  refine wpAny_setItem_heap (hsz:=p) (tupleKind_room_in1 hu) (vw I.hok M) G λJ n w=>h _ ?_;obtain⟨q,Y,Z,o,h2,U,T,_,S⟩:=n;refine pY I (by rw[e];exact True.intro) w ⟨q,o⟩ ⟨x,B,_,(j.put k M rv).keeps λc ys L=>?_,q,Y,Z,o,h2,U,T,S⟩;rw[ao (IY L e (λz=>nomatch z))];exact L
end
section
variable {X:Cx}{pins:Nv}{σ:St}{H:Hp}{s:Ny}{a:Addr}{kvs:List (df×V)}{k:df}{u:Value}{A:NG}{E:Nt}
theorem IA{Q:Nt}(I:Inv X pins σ H s)(e:Rd H a (.dK kvs))(h:∀t s',Inv X pins σ H s'->Q (.int kvs.length t) s'):wpAny (model X.prog X.w) A (call (.builtin "len") [.ref a]) Q E s:=by
 obtain⟨z,c,vs,b,g⟩:=uc I.hok e;refine call_len_dict c g (by rw[<- b.length];rw[q0R]at z;omega) ?_;rw[<- b.length];exact h _ _ (I.tok _)
end
def Il(i:Expr):Prop:=∀ov iv,subscripted i false ov iv=operate [ov,iv] (getItem ov iv)
theorem F_{prog:NE}{A:NG}{env:Env}{value slice:Expr}{pos:Pos}{id:String}{Q:Nt}
  (hl:typeLookup (.type T) "__getitem__"=pure (some (.builtin id))) (hs:Il slice)
  (h:wpAny (model prog w) A (eval value env) (λo s₁=>wpAny (model prog w) A (eval slice env) (λi s₂=>s₂.TypeIs o T/\wpAny (model prog w) A (getItem o i) Q E s₂) E s₁) E s) :
  wpAny (model prog w) A (eval (.Subscript value slice pos) env) Q E s:=by
 refine Subscript_ (q0S h (λo s₁ j=>q0S j (λi s₂ b=>?_) λ_ _ x=>x) λ_ _ x=>x);obtain⟨e,b⟩:=b;unfold subscriptTail;refine q04 ?_;rw[getitemInPython_of_ne e.not_modules];refine q04 (wpAny_specialOf e hl ?_);have a:wpAny (model prog w) A (subscripted slice false o i) (λr c=>wpAny (model prog w) A (letTemporaryGo value o r >>= λ_=>pure r) Q E c) E s₂:=by
  rw[hs o i];exact wpAny_operating (q0S b (λr c g=>q04 (wpAny_letTemporaryGo (q05 g))) λ_ _ x=>x)
 first
  |exact q05 (q04 a)
  |exact q04 (q05 (q04 a))
  |exact q04 a
theorem xa{pins:Nv}{σ:St}(I:Inv X pins σ H s)(g:pS H a y o):s.TypeIs (.ref a) "dict":=by
 rcases g with⟨c,k,e,_,_⟩ | ⟨c,k,b,e,_,_,_⟩
 ·obtain⟨_,_,vs,_,j⟩:=uc I.hok e
  exact j.typeIs
 ·obtain⟨_,_,xs,_,j⟩:=xq I.hok e
  exact j.typeIs
def Di(td ty:TE):TE:=λσ H Q=>td σ H λx H1=>ty σ H1 λy H2=>∃a v,x=.ref a/\pS H2 a y (some v)/\Q v H2
def we(ty td:TE):TE:=λσ H Q=>ty σ H λy H1=>td σ H1 λx H2=>∃a o,x=.ref a/\pS H2 a y o/\Q (.bl (!o.isSome)) H2
def Ee(td ty tv:TE):TS:=λD σ H=>tv σ H λv H1=>td σ H1 λx H2=>ty σ H2 λy H3=>∃a H4,x=.ref a/\A5 H3 a y v H4/\D.nx σ H4
section
variable {X:Cx}{o i e value:Expr}{pos pos' tpos:Pos}{td ty tv:TE}
theorem va(hu:X.A.units+1<cLine)(ho:PE X o td)(hi:PE X i ty)(hs:Il i):PE X (.Subscript o i pos) (Di td ty):=by
 intro b s σ H Q I h;refine F_ PySem.F.slot_dict_getitem.lookup hs (bV (ho b s σ H _ I h) λu j ⟨x,B,r,l,n⟩=>bV (hi b j σ B _ r n) λiv s2 ⟨y,w,e,k,a,v,p,g,m⟩=>?_);subst p;obtain rfl:u=Value.ref a:=l;exact⟨xa e g,Bt hu e g k λw' s3 q c=>⟨v,w,q,c,m⟩⟩
theorem tz(hu:X.A.units+1<cLine)(hi:PE X i ty)(ho:PE X o td):PC X .NotIn i o (we ty td):=by
 intro b s σ H Q I h;refine bV (hi b s σ H _ I h) λiv c ⟨y,w,r,e,l⟩=>bV (ho b c σ w _ r l) λu s2 ⟨x,v,q,j,a,m,n,g,k⟩=>?_;subst n;obtain rfl:u=Value.ref a:=j;exact Gb hu q g e λs3 p=>⟨.bl (!m.isSome),v,p,rfl,k⟩
theorem AE(hu:X.A.units+1<cLine)(ho:PE X o td)(hi:PE X i ty)(hv:PE X value tv)(hs:swapsWith value (some (.Subscript o i pos')) pos.line X.env=pure false) :
  PS X (.Assign [.Subscript o i pos'] value pos) (Ee td ty tv):=by
 intro b s σ H D I h;refine wpAny_Assign_Subscript (bV (hv b s σ H _ I h) λr e ⟨v,M,G,l,p⟩=>bV (ho b e σ M _ G p) λu c ⟨x,L,C,k,n⟩=>bV (hi b c σ L _ C n) λiv s3 ⟨y,H3,B,j,a,J,q,g,m⟩=>?_) hs;subst q;obtain rfl:u=Value.ref a:=k;exact B' hu B g j l λs4 w=>⟨σ,J,w,m⟩
end
theorem Ec(h:Heap)(hb:sysModules<h.objs.size):bM P w H (h.push {cls:=.type "dict",data:=.dict #[]}) h.objs.size (.dK []):=
 ⟨MX _,beq_eq_false_iff_ne.mpr (Ne.symm (MS hb)),[],.nil,Heap.DictOf.new h⟩
theorem EA(h:Heap)(hb:sysModules<h.objs.size):bM P w H (h.push {cls:=.type "dict",data:=.dict #[]}) h.objs.size (.dT []):=
 ⟨MX _,beq_eq_false_iff_ne.mpr (Ne.symm (MS hb)),[],.nil,_,#[],0,MF _ rfl,⟨rfl,rfl,rfl⟩,rfl,rfl,List.nodup_nil⟩
def yo:TE:=λ_ H Q=>∀p,H p=none->Q (.ref p) (ay H p (.dT []))
section
variable {X:Cx}{pos:Pos}
theorem xQ:PE X (.Dict [] [] pos) yo:=λpins s σ H Q I h=>
 wpAny_Dict_empty ⟨.ref s.heap.objs.size,_,I.laid (a:=s.heap.objs.size) (o:=.dT []) (t':=s.toks) (λ_ _ q=>Mz _ q) (MW _) (EA s.heap I.big),rfl,h _ (I.hok.fresh (MW _))⟩
end
def qv:List (TE×TE)->St->Hp->(List (V×V)->Hp->Prop)->Prop
 | [],_,H,Q=>Q [] H
 | (tk,tv)::r,σ,H,Q=>tk σ H λx H1=>tv σ H1 λy H2=>qv r σ H2 λps H3=>Q ((x,y)::ps) H3
abbrev VV:List (V×V)->List (Value×Value)->Prop:=Paired λp q=>bu p.1 q.1/\bu p.2 q.2
def Jd(X:Cx)(pos:Pos)(keys:List (Option Expr))(values:NK)(trs:List (TE×TE)):Prop:=
 ∀(pins:Nv) (s:Ny) (σ:St) (H:Hp) (Q:List (V×V)->Hp->Prop),Inv X pins σ H s->qv trs σ H Q ->
  wpAny (model X.prog X.w) X.A (evalPairs (pairTrees keys values X.env pos)) (λvs s'=>∃ps H',Inv X pins σ H' s'/\VV ps vs/\Q ps H') X.xe s
theorem GF{pos:Pos}:Jd X pos [] [] []:=λpins s σ H Q I h=>pairTrees_nil_walk ⟨[],H,I,.nil,h⟩
theorem Da{pos:Pos}{k v:Expr}{ks:List (Option Expr)}{tk tv:TE}{trs:List (TE×TE)}(hk:PE X k tk)(hv:PE X v tv)(hr:Jd X pos ks vs trs) :
  Jd X pos (some k::ks) (v::vs) ((tk,tv)::trs):=λpins s σ H Q I h=>
 pairTrees_cons_walk (bV (hk pins s σ H _ I h) λu s1 ⟨x,H1,I1,rx,q1⟩=>bV (hv pins s1 σ H1 _ I1 q1) λw2 s2 ⟨y,H2,I2,ry,q2⟩=>
  bV (hr pins s2 σ H2 _ I2 q2) λws s3 ⟨ps,H3,I3,rel,q3⟩=>⟨(x,y)::ps,H3,I3,.cons ⟨rx,ry⟩ rel,q3⟩)
def qR(kvs more:List (df×V)):List (df×V):=more.foldl (λacc kv=>cQ acc kv.1 kv.2) kvs
theorem KV.merge:∀{more:List (df×V)} {rs:List (df×Value)} {kvs:List (df×V)} {vs:List (df×Value)},KV more rs->KV kvs vs->KV (qR kvs more) (merged vs rs):=by
 intro more rs kvs vs r;unfold KV at r
 induction r generalizing kvs vs with
 |nil=>intro q;exact q
 | @cons p q ps qs h t ih=>
  intro a;have e:KV (cQ kvs p.1 p.2) (stored vs q.1 q.2):=by
   have:=a.put p.1 h.2;rw[<- h.1];exact this
  exact ih e
theorem lT:∀(more kvs:List (df×V)),(qR kvs more).length<=kvs.length+more.length
 | [],kvs=>by show kvs.length<=kvs.length+0;omega
 |p::r,kvs=>by
  have h1:=lT r (cQ kvs p.1 p.2);have h2:=ig kvs p.1 p.2;show(qR (cQ kvs p.1 p.2) r).length<=_;rw[MK];omega
theorem qX:∀{kvs:List (df×V)} {ws:List (Value×Value)},VV (kvs.map λkv=>(kV kv.1,kv.2)) ws->∃rs,Carries (cR P w) ws rs/\KV kvs rs
 | [],_,r=>by rw[List.map_nil]at r;cases r;exact⟨[],True.intro,.nil⟩
 |p::kvs,_,r=>by
  rw[M5]at r;cases r with
  | @cons a b as bs h t=>
   obtain⟨rs,c,q⟩:=qX (P:=P) (w:=w) t;obtain⟨b1,b2⟩:=b;exact⟨(p.1,b2)::rs,⟨uh h.1,rfl,c⟩,.cons ⟨rfl,h.2⟩ q⟩
def D1(trs:List (TE×TE)):TE:=λσ H Q=>∀p,H p=none->qv trs σ (ay H p (.dK [])) λps H2=>H2 p=some (.dK [])/\∃kvs:List (df×V),ps=kvs.map (λkv=>(kV kv.1,kv.2))/\kvs.length<=15/\Q (.ref p) (ay H2 p (.dK (qR [] kvs)))
theorem Fz{pos:Pos}{keys:List (Option Expr)}{values:NK}{trs:List (TE×TE)}(h:Jd X pos keys values trs)(hall:keys.all (·.isSome)=true)(hl:keys.length=values.length)(h0:keys≠[])
  (h15:keys.length<=15):PE X (.Dict keys values pos) (D1 trs):=by
 intro b s σ H Q I q;have x:=I.hok.fresh (MW s.heap.objs.size);have G:=I.laid (a:=s.heap.objs.size) (o:=.dK []) (h':=s.heap.push {cls:=.type "dict",data:=.dict #[]}) (t':=s.toks) (λ_ _ q=>Mz _ q) (MW _) (Ec s.heap I.big);refine wpAny_Dict_walk (knd:=cR X.prog X.w) hall hl h0 h15 (bV (h b _ σ _ _ G (q _ x)) λws s2 ⟨ps,H2,l,k,e,g,C,lk,r⟩=>?_);subst C;obtain⟨m,c,n⟩:=qX (P:=X.prog) (w:=X.w) k;obtain⟨z,B,vs0,p,D⟩:=ET l.hok e;cases p;refine⟨m,c,D,λh' j v=>⟨.ref s.heap.objs.size,_,?_,rfl,r⟩⟩;have u:(qR [] g).length<=sizeLine:=by
  have h1:=lT g [];rw[List.length_nil]at h1;rw[q0R];omega
 have y:∃q,h'.get? s.heap.objs.size=some q:=let ⟨q,_,_,hq,_⟩:=j;⟨q,hq⟩
 exact pY l (by rw[e];exact True.intro) v y (yj u B (n.merge .nil) j)
structure M1(X:Cx)(o:Expr)(m:Str)(apos:Pos)(e:Expr)(cpos:Pos):Prop where
 base:attributeBase o m X.env (eval o X.env)=eval o X.env
 few:((backTo cpos (starEach [e] X.env)).all (λx=>!x.1)&&(backToKw cpos (keywordEach [] X.env)).all (λx=>x.1.isSome)
  && decide (([e]:List Expr).length+([]:List Keyword).length+(if([]:List Keyword).isEmpty then 0 else 1)<30))=true
 line:(apos.endLine==cpos.line)=true
 trees:backTo cpos (starEach [e] X.env)=[(false,eval e X.env)]
structure M2(X:Cx)(o:Expr)(m:Str)(apos:Pos)(e f:Expr)(cpos:Pos):Prop where
 base:attributeBase o m X.env (eval o X.env)=eval o X.env
 few:((backTo cpos (starEach [e,f] X.env)).all (λx=>!x.1)&&(backToKw cpos (keywordEach [] X.env)).all (λx=>x.1.isSome)
  && decide (([e,f]:List Expr).length+([]:List Keyword).length+(if([]:List Keyword).isEmpty then 0 else 1)<30))=true
 line:(apos.endLine==cpos.line)=true
 trees:backTo cpos (starEach [e,f] X.env)=[(false,eval e X.env),(false,eval f X.env)]
def JN(H:Hp)(a:Addr):Prop:=(∃kvs,Rd H a (.dK kvs))\/∃kvs,Rd H a (.dT kvs)
theorem Hq{pins:Nv}{σ:St}(I:Inv X pins σ H s)(d:JN H a) :
  s.TypeIs (.ref a) "dict"/\(∀b,Value.ref a=.ref b->∃ob,s.heap.get? b=some ob/\ob.dict=none)/\(a==sysModules)=false:=by
 rcases d with⟨g,e⟩ | ⟨g,e⟩
 ·obtain⟨_,j,vs,_,c⟩:=uc I.hok e
  refine⟨c.typeIs,λb q=>?_,j⟩;cases q;obtain⟨ob,_,_,h1,h2,_⟩:=c;exact⟨ob,h1,h2.2.1⟩
 ·obtain⟨_,j,xs,_,c⟩:=xq I.hok e
  refine⟨c.typeIs,λb q=>?_,j⟩;cases q;obtain⟨ob,_,_,h1,h2,_⟩:=c;exact⟨ob,h1,h2.2.1⟩
end L2
namespace Att
open PySem PySem.W PySem.Calls PyProof.Rows
theorem pQ:∀(ns:List Int) (vs:Nz),WellAll P h vs (ns.map WData.int)->IntsAre vs ns:=by
 intro ns
 induction ns with
 |nil=>
  intro vs w;rw[List.map_nil]at w;cases w;exact .nil
 |cons n ns ih=>
  intro vs w;rw[M5]at w;cases w with
  |cons a b=>
   cases a;exact .cons _ _ (ih _ b)
theorem BM{l:OpenLaw}{n:Nat}(hn:l.most=some n){P:Params}{h:Heap}{args:List WData}{vals:Nz}
  (hpre:l.row.toRowW.claim.pre args=true) (hwl:WellAll P h vals args) :
  ∃a vs ns,vals=[Value.ref a]/\args=[WData.list (ns.map WData.int)]/\h.get? a=some {cls:=.type "list",data:=.seq vs.toArray}/\IntsAre vs ns/\ns.length<=n:=by
 have g:WShape.hasAll [] args [.list .int]=true:=(pre_splitW hpre).1;have j:l.pre.holds [] {args:=args}=true:=(pre_splitW hpre).2;obtain⟨d,r,rfl,h1,h2⟩:=hasAllW_cons g;obtain rfl:=hasAllW_nil h2;obtain⟨xs,rfl,m⟩:=hasW_list h1;obtain⟨ns,rfl⟩:=items_int m;have b:ns.length<=n:=by
  unfold OpenLaw.pre at j;have e:(WTm.not (.lt (.lit (.int (n:Int))) (.len (.arg 0)))).holds [] {args:=[.list (ns.map .int)]}=true:=by
   have e:=(holds_andW j).1;rw[hn]at e;exact e
  have c:=condW_of e (w_not (w_lt w_lit (w_len_list (w_arg rfl))));rw[MA]at c;refine Nat.le_of_not_lt λq=>?_;have k:(n:Int)<((ns.length:Nat):Int):=by omega
  first
   | (rw[q09 k]at c;exact q0N c nofun)
   | (simp at c;omega)
 cases hwl with
 |cons w1 w2=>
  cases w2;cases w1 with
  |list ho hall=>exact⟨_,_,ns,rfl,rfl,ho,pQ ns _ hall,b⟩
theorem CP(l:OpenLaw)(args:List WData):l.row.toRowW.claim.post args (.bool true) args=true:=
 postW_of (r:=l.row.toRowW) (X:=(true==true))
  (show WShape.has [] (.bool true) .bool=true by first | rfl | decide | simp[WShape.has,WShape.arms,WShape.armsAll])
  (show(WTm.eq .res (.lit (.bool true))).value [] {args:=args,res:=some (.bool true),after:=args}=some (.bool (true==true)) from w_eq_bool (w_res rfl) w_lit) rfl
theorem attach_call{l:OpenLaw}{n:Nat}{loose:NF}{XP:(Str->Option Value)->Heap->Prop}{YP:World->Heap->Prop}{d:DefRec}
  (hn:l.most=some n) (hdf:d.params.defaults=[])
  (call:∀(w:NH) (s₀ s₁:Ny) (mg mb:NC) (fa:Addr) (o:Obj) (pm cd doc:Value) (a:Addr) (vs:Nz) (ns:List Int),
   Ground q loose [] XP w s₀ mg mb s₁.heap->YP w s₁.heap ->
   s₁.heap.get? fa=some o->o.data=.func (docDef d.name d.params d.body d.scope pm cd doc)->s₁.heap.CodeRec cd d.name->mg d.name=some (.ref fa) ->
   s₁.heap.get? a=some {cls:=.type "list",data:=.seq vs.toArray}->IntsAre vs ns->ns.length<=n->s₁.gens=#[] ->
   codeAny (model l.prog w) callerA (.call (.ref fa) ⟨[.ref a],[]⟩) (λr s'=>r=.ok (.ret (.bool true))/\OldK s₁.heap s'.heap/\s'.os=s₁.os/\AllBare s'.gens) s₁) :
  WalkO q loose XP YP l.row.toRowW d [] (λf vs=>PySem.call f vs):=by
 intro w s₀ s₁ mg mb G Y fa o pm cd doc I kV v B m p k y args vals as c hlay hrd j hlo;obtain rfl:I=.none:=Dflts.none p hdf;obtain rfl:kV=.none:=Dflts.noKw p;obtain⟨a,vs,ns,rfl,rfl,e,b,g⟩:=BM hn c j;refine enter_call (codeAny_mono (call w s₀ s₁ mg mb fa o pm cd doc a vs ns G Y v (fd_plain B) m k e b g y) λr s' u=>?_);obtain⟨rfl,h2,D,C⟩:=u;exact⟨.inl ⟨.bool true,.bool true,[],rfl,λ_=>rfl,.bool true,CP l _,λ_=>⟨List.Pairwise.nil,λ_ x=>(nomatch x)⟩⟩,h2,D,C⟩
section
variable {prog:NE}{w:NH}{A:NG}{E:Nt}{s:Ny}{K:Frag}
end
end Att
namespace L2
open PySem PySem.Spec PyProof.Rows
theorem uq:∀{vs:Nz} {ns:List Int},IntsAre vs ns->bo (ns.map V.int) vs
 |_,_,.nil=>.nil
 |_,_,.cons n t h=>.cons ⟨t,rfl⟩ (uq h)
def HZ(H:Hp):Prop:=∀b,H b=none\/∃o xs,H b=some (.frz o (.lst xs))
theorem DJ{K:Nu}{mg mb:NC}{CX:kC}{fa a:Addr}{x:Str}{sp:Sp}{s₁:Ny}{vs:Nz}
  (KX:K.In s₁.heap) (hns:s₁.heap.Ns mainGlobals mg) (hb:s₁.heap.Ns builtinsNs mb) (hbb:∀x:Str,x≠"__name__"->mb x=bootBuiltins x) (hlim:s₁.heap.NoLimit) (hg:s₁.gens=#[])
  (ha:s₁.heap.get? a=some {cls:=.type "list",data:=.seq vs.toArray}) (hi:IntsAre vs ns) (hl:ns.length<=sizeLine) (hr:dv k callerA)
  (F:∀base:Heap,K.In base->base.Ns mainGlobals mg->aS P w K mg base CX k fa fd [x] sp) (hbind:∀(s:Ny) (u:Value),BindsTo s fd ⟨[u],[]⟩ [(x,u)])
  (hsp:∀H:Hp,HZ H->aW K H a (ns.map V.int)->sp [.ref a] H (λv _=>v=.bl true) λ_ _ _=>False)
  (hCX:∀H e s',CX [] H s₁ (λ_ _ _=>False) e s'->False) :
  codeAny (model P w) callerA (.call (.ref fa) ⟨[.ref a],[]⟩) (λr s'=>r=.ok (.ret (.bool true))/\OldK s₁.heap s'.heap/\s'.os=s₁.os/\AllBare s'.gens) s₁:=by
 have L:=uq hi;have p:=hi.length
 -- from an abstract heap in which nothing but the script may be tracked
 have j:∀H:Hp,HZ H->aW K H a (ns.map V.int)->kZ P w H s₁.heap->(∀b,H b≠none->b=a)->(H a≠none->K.lookup a=none) ->
   codeAny (model P w) callerA (.call (.ref fa) ⟨[.ref a],[]⟩) (λr s'=>r=.ok (.ret (.bool true))/\OldK s₁.heap s'.heap/\s'.os=s₁.os/\AllBare s'.gens) s₁:=by
  intro H M Z B O hK;have c:∀{b:Addr} {o:Obj},s₁.heap.get? b=some o->H b=none->(vB s₁.heap H).get? b=some o:=λe n=>Es e n;have G:∀{b:Addr} {o:Obj} {es:Array DictEntry} {ep:Nat},s₁.heap.get? b=some o->o.data=.dict es ep->H b=none:=fun{b o es ep} e d=>by
   cases q:H b with
   |none=>rfl
   |some u=>
    have J:b=a:=O b (by rw[q];simp);subst J;rw[ha]at e;cases e
    have d':Data.seq vs.toArray _=Data.dict es ep:=d;cases d'
  have g:∀{b:Addr} {m:NC},s₁.heap.Ns b m->(vB s₁.heap H).Ns b m:=fun{b m} ⟨o,es,ep,e,d,r⟩=>⟨o,es,ep,c e (G e d),d,r⟩;have C:K.In (vB s₁.heap H):=λb o e=>c (KX b o e) (by
   cases q:H b with
   |none=>rfl
   |some u=>
    have J:b=a:=O b (by rw[q];simp);subst J;rw[hK (by rw[q];simp)]at e;cases e)
  have hM:Mod K mg (vB s₁.heap H):=⟨C,g hns,⟨mb,g hb,hbb⟩,let ⟨mc,h1,h2⟩:=hlim;⟨mc,g h1,h2⟩⟩;have e0:xk P w K mg (vB s₁.heap H) callerA [] s₁ H:=⟨rfl,hM,λb o e=>FX e,Nat.le_of_eq (Cv _ _),trivial,λb hb=>q0N (show b∈([]:List Addr) from hb) (by simp),B,.of_eq hg⟩;refine codeAny_mono ((F _ C (g hns)).run callerA [] s₁ H ⟨[.ref a],[]⟩ [.ref a] [.ref a] _ _ hr e0 (hbind s₁ (.ref a)) (.cons rfl .nil) (hsp H M Z)) λr s' h=>?_;cases r with
  |error e=>exact(hCX H e s' h).elim
  |ok fl=>
   cases fl with
   |next=>exact False.elim h
   |brk=>exact False.elim h
   |cont=>exact False.elim h
   |ret u=>
    obtain⟨v,H',os,D,un,y,T,q⟩:=h;have U:v=.bl true:=q;subst U;obtain rfl:u=Value.bool true:=T;refine⟨rfl,OldK.of_keep λb o e=>?_,os,D⟩;cases q:H b with
    |none=>exact un.keep b o e q (by intro z;exact q0N (show b∈([]:List Addr) from z) (by simp)) (by simp)
    |some u=>
     rcases M b with z | ⟨Y,xs,z⟩
     ·rw[q]at z;cases z
     ·have S:=un.frzs b Y _ z
      obtain⟨R,_⟩:=B b _ z;obtain⟨e2,_⟩:=y b _ S;rw[e]at R;cases R
      exact e2
 cases I:K.lookup a with
 |some o=>
  -- the script is one of the module's own objects
  have e:=KX a o I;rw[ha]at e;cases e;refine j (λ_=>none) (λ_=>.inl rfl) (.inr ⟨_,vs.toArray,_,I,rfl,rfl,rfl,by rw[MG,p];exact hl,by simpa using L⟩) (λb u z=>by have l:(none:Option HO)=some u:=z;cases l) (λb z=>q0N rfl z) λz=>q0N rfl z
 |none=>
  refine j (λb=>if b=a then some (.frz {cls:=.type "list",data:=.seq vs.toArray} (.lst (ns.map V.int))) else none) (λb=>?_) (.inl (.inr ⟨{cls:=.type "list",data:=.seq vs.toArray},q07 rfl⟩)) (λb u z=>?_) (λb z=>?_) λ_=>I
  ·by_cases hb:b=a
   ·exact .inr ⟨_,_,q07 hb⟩
   ·exact .inl (q06 hb)
  ·by_cases hb:b=a
   ·have l:=(q07 hb).symm.trans z
    cases l;subst hb;exact⟨ha,by rw[MA];exact hl,vs,_,L,ha⟩
   ·have l:=(q06 hb).symm.trans z
    cases l
  ·by_cases hb:b=a
   ·exact hb
   ·exact q0N (q06 hb) z
theorem walk_of{l:PySem.W.OpenLaw}{n:Nat}{loose:NF}{XP:(Str->Option Value)->Heap->Prop}{YP:World->Heap->Prop}{d:DefRec}{K:Params->PySem.W.Frag}{CX:World->kC}{sp:World->Sp}{x:Str}
  (hn:l.most=some n) (hn2:n<=sizeLine) (hdf:d.params.defaults=[]) (hr:dv k callerA)
  (hY:∀(w:NH) (h:Heap),YP w h->(K w.params).In h)
  (F:∀(w:NH) (mg:NC) (fa:Addr) (h:Heap),(K w.params).In h->h.Ns mainGlobals mg->mg d.name=some (.ref fa) ->
   ∃fd:FuncData,(∀(s:Ny) (u:Value),BindsTo s fd ⟨[u],[]⟩ [(x,u)]) /\
    ∀base:Heap,(K w.params).In base->base.Ns mainGlobals mg->aS l.prog w (K w.params) mg base (CX w) k fa fd [x] (sp w))
  (hsp:∀(w:NH) (H:Hp) (a:Addr) (ns:List Int),ns.length<=n->HZ H->aW (K w.params) H a (ns.map V.int)->sp w [.ref a] H (λv _=>v=.bl true) λ_ _ _=>False)
  (hCX:∀(w:NH) (H:Hp) (s:Ny) (e:Value) (s':Ny),CX w [] H s (λ_ _ _=>False) e s'->False) :
  PySem.W.WalkO q loose XP YP l.row.toRowW d [] (λf vs=>PySem.call f vs):=by
 refine Att.attach_call hn hdf λw s₀ y mg mb fa o pm cd doc a vs ns G Y ho hd hcd p m j c B=>?_;have r:=hY w _ Y;obtain⟨fd,C,J⟩:=F w mg fa _ r G.T.g p;exact DJ r G.T.g G.T.b G.T.builtins G.T.nolimit B m j (M6 c hn2) hr J C (λH I D=>hsp w H a ns c I D) λH e s'=>hCX w H y e s'
def aX(s:Stmt):Arguments:=match s with
 | .FunctionDef _ a _ _ _ _ _ _ _ _=>a
 |_=>{posonlyargs:=[],args:=[],vararg:=none,kwonlyargs:=[],kw_defaults:=[],kwarg:=none,defaults:=[]}
def aT(s:Stmt):List Stmt:=match s with
 | .FunctionDef _ _ b _ _ _ _ _ _ _=>b
 |_=>[]
def aj(s:Stmt):Scope:=match s with
 | .FunctionDef _ _ _ _ _ _ sc _ _ _=>sc
 |_=>{kind:=.function,names:=[],isGenerator:=false,isCoroutine:=false}
abbrev bL:kC:=λ_ _ _ _ _ _=>False
abbrev E0:XK:=λ_ _ _=>False
theorem ba:dr bL X E0:=λ_ _ _ _ _ _ _ h=>h.elim
structure cF(K:Nu)(x qual:Str)(st:Stmt)(f:Addr)(fd:ND):Prop where
 ex:∃(oc:Value) (od:NJ) (kV doc pm:Value) (an:NJ) (cdv ct:Value) (osl:Array (Option Value)),
  fd=PySem.W.fnOf x qual (aX st) (aT st) (aj st) .none kV doc pm an cdv ct/\K.lookup f=some ⟨oc,od,.func fd,osl⟩/\PySem.W.codeIn K cdv qual=true
 kp:PySem.W.keepIn K (.ref f)=true
section
variable {P:NE}{w:NH}{K:Nu}{mg:NC}{base:Heap}
theorem cF.ok{qual:Str}{st:Stmt}{f:Addr}{ps:NF}{sp:Sp}(F:cF K x qual st f fd)(S:aw N ps (aj st))(len:∀vs H Q E,sp vs H Q E->vs.length=ps.length)
  (hbody:∀(cdv:Value) (A:NG) (outer:List Env) (s:Ny) (H:Hp) (vs:List V) (Q:VK) (E:XK),dv k (A.deeper (envOfC qual (aj st) s.heap.objs.size f cdv))->sp vs H Q E ->
   ∃t,wu (gS bL P w K mg base N qual (aj st) f cdv A outer s H E).nox (aT st) t/\t {nx:=λ_ H'=>Q .non H',rt:=Q} (start N vs) H):↑aS (k+1) f fd ps sp:=by
 obtain⟨oc,od,kV,doc,pm,an,cdv,ct,osl,rfl,c,b⟩:=F.ex;refine GL c b S len λA outer s H vs Q E hr a=>?_;obtain⟨t,h,q⟩:=hbody cdv A outer s H vs Q E hr a;exact⟨t,h.nox,q⟩
theorem cF.binds{qual:Str}{st:Stmt}{f:Addr}{ps:NF}(F:cF K x qual st f fd)
  (h:∀(kV doc pm:Value) (an:NJ) (cdv ct:Value) (us:Nz),us.length=ps.length->bindArgs (PySem.W.fnOf x qual (aX st) (aT st) (aj st) .none kV doc pm an cdv ct) ⟨us,[]⟩=pure (ps.zip us)):cq K fd ps []:=by
 obtain⟨oc,od,kV,doc,pm,an,cdv,ct,osl,rfl,lk,hcd⟩:=F.ex;exact .all (h kV doc pm an cdv ct)
theorem bI{qual:Str}{st:Stmt}{f:Addr}{oc:Value}{od an:NJ}{osl:Array (Option Value)}{kV doc pm cdv ct:Value}(l:K.lookup f=some ⟨oc,od,.func (PySem.W.fnOf x qual (aX st) (aT st) (aj st) .none kV doc pm an cdv ct),osl⟩)
  (c:PySem.W.codeIn K cdv qual=true) (k:PySem.W.keepIn K (.ref f)=true):cF K x qual st f (PySem.W.fnOf x qual (aX st) (aT st) (aj st) .none kV doc pm an cdv ct):=⟨⟨oc,od,kV,doc,pm,an,cdv,ct,osl,rfl,l,c⟩,k⟩
end
section
variable {X:Cx}
theorem pv(i:Nat){x:Str}{pos:Pos}(hN:autoParam (X.N[i]?=some x) zz0._auto_1)(hv:autoParam (Jj X.env.scope x) zz6._auto_1)(hd:autoParam ((x==("__debug__":Str))=false) zz1._auto_1)
  (hcd:autoParam ((x==("__classdict__":Str))=false) zz1._auto_1):PE X (.Name x pos) (Cu i):=HX hN hv hd hcd
theorem tL:g_ X (.builtin "len") (λxs H Q=>∃a kvs,xs=[V.ref a]/\H a=some (.dK kvs)/\Q (.int kvs.length) H):=by
 intro pins s σ H xs us Q I r h;obtain⟨a,kvs,rfl,c,q⟩:=h;obtain⟨u,rfl,b⟩:=xj r;cases b;exact IA I (.inl c) λt s' e=>⟨.int kvs.length,H,e,⟨t,rfl⟩,q⟩
end
def az(H H':Hp):Prop:=∀b o,H b=some o->H' b=some o
theorem az.refl(H:Hp):az H H:=λ_ _ h=>h
theorem az.trans(a:az H H1)(b:az H1 H2):az H H2:=λc o h=>b c o (a c o h)
theorem az.free(e:az H H'){l:Addr}(h:H' l=Option.none):H l=Option.none:=by
 cases q:H l with
 |none=>rfl
 |some o=>
  rw[e l o q]at h;cases h
theorem az.seq{K:Nu}(e:az H H')(h:aW K H a xs):aW K H' a xs:=by
 rcases h with(h | ⟨o,h⟩) | h
 ·exact .inl (.inl (e _ _ h))
 ·exact .inl (.inr ⟨o,e _ _ h⟩)
 ·exact .inr h
section
variable {κ:Type}[DecidableEq κ]
theorem wN{kvs:List (κ×V)}{k:κ}(h:cA kvs k=none):¬ k∈kvs.map (·.1):=by
 intro m;obtain⟨p,b,e⟩:=Ng.mp m;have q:(kvs.any λa=>decide (a.1=k))=true:=List.any_eq_true.mpr ⟨p,b,q09 e⟩;rw[fS,h]at q;exact q0N q (by simp)
theorem Gh{kvs:List (κ×V)}{k:κ}{v:V}(h:cA kvs k=some v):k∈kvs.map (·.1):=by
 have q:(kvs.any λa=>decide (a.1=k))=true:=by
  rw[fS,h]
  all_goals rfl
 obtain⟨p,b,e⟩:=List.any_eq_true.mp q;exact Ng.mpr ⟨p,b,of_decide_eq_true e⟩
theorem An:∀{l:List κ} {k:κ},l.Nodup->¬ k∈l->(l++[k]).Nodup
 | [],k,_,_=>by simp
 |a::r,k,h,hk=>by
  obtain⟨h1,h2⟩:=List.nodup_cons.mp h;show(a::(r++[k])).Nodup;refine List.nodup_cons.mpr ⟨λm=>?_,An h2 λm=>hk (MO.mpr (Or.inr m))⟩;rcases MM.mp m with q | q
  ·exact h1 q
  ·exact hk (MO.mpr (Or.inl (MB.mp q).symm))
theorem Ft{kvs:List (κ×V)}{k:κ}(v:V)(hn:(kvs.map (·.1)).Nodup)(h:cA kvs k=none):((cQ kvs k v).map (·.1)).Nodup:=by
 rw[qM v h,ML];exact An hn (wN h)
end
end L2
namespace PySem
open Sem (wp)
open Builtin Builtin.Str Builtin.Int
namespace F
theorem oB:Manifest.owners.lookup "reversed"=some Manifest.sig_reversed:=by kernel_rfl
theorem slot_rvs_next:Slot "reversed" "__next__" "reversed.__next__":=
 .of (owner:="reversed") (n:="__next__") (by rw[typeLookup_type,builtinLookup_eq_fast];kernel_rfl) (by decide +kernel) (by decide +kernel) (by decide +kernel)
  (by first | exact .inl (by decide +kernel) | exact .inr (by decide +kernel)) (by rw[isSubtype_type];kernel_rfl)
theorem entry_rvs_next:entryFor table "reversed.__next__"=some Builtin.«reversed.__next__»:=entryFor_of_tree (by kernel_rfl)
theorem slot_rvs_iter:Slot "reversed" "__iter__" "reversed.__iter__":=
 .of (owner:="reversed") (n:="__iter__") (by rw[typeLookup_type,builtinLookup_eq_fast];kernel_rfl) (by decide +kernel) (by decide +kernel) (by decide +kernel)
  (by first | exact .inl (by decide +kernel) | exact .inr (by decide +kernel)) (by rw[isSubtype_type];kernel_rfl)
theorem nolen_rvs:typeLookup (.type "reversed") "__len__"=pure none:=by rw[typeLookup_type,builtinLookup_eq_fast];kernel_rfl
theorem hint_rvs:typeLookup (.type "reversed") "__length_hint__"=pure (some (.builtin "reversed.__length_hint__")):=by rw[typeLookup_type,builtinLookup_eq_fast];kernel_rfl
theorem args_rvs_next_1(a:Value):argsOk "reversed.__next__" ⟨[a],[]⟩:=by
 unfold argsOk;rw[signature?_of (id:="reversed.__next__") (n:=['_','_','t','x','e','n','_','_']) (o:=['d','e','s','r','e','v','e','r']) (by kernel_rfl) oB];kernel_rfl
theorem args_rvs_iter_1(a:Value):argsOk "reversed.__iter__" ⟨[a],[]⟩:=by
 unfold argsOk;rw[signature?_of (id:="reversed.__iter__") (n:=['_','_','r','e','t','i','_','_']) (o:=['d','e','s','r','e','v','e','r']) (by kernel_rfl) oB];kernel_rfl
theorem entry_rvs_iter:entryFor table "reversed.__iter__"=some Builtin.«dict_keyiterator.__iter__»:=
 entryFor_alias (id':="dict_keyiterator.__iter__") (by kernel_rfl) (by first | rfl | decide +kernel | (unfold String.splitOn;simp +decide [String.splitOnAux])) (by decide +kernel) (by kernel_rfl)
theorem slot_rvs_hint:Slot "reversed" "__length_hint__" "reversed.__length_hint__":=
 .of (owner:="reversed") (n:="__length_hint__") (by rw[typeLookup_type,builtinLookup_eq_fast];kernel_rfl) (by decide +kernel) (by decide +kernel) (by decide +kernel)
  (by first | exact .inl (by decide +kernel) | exact .inr (by decide +kernel)) (by rw[isSubtype_type];kernel_rfl)
theorem entry_rvs_hint:entryFor table "reversed.__length_hint__"=some Builtin.«reversed.__length_hint__»:=entryFor_of_tree (by kernel_rfl)
theorem args_rvs_hint_1(a:Value):argsOk "reversed.__length_hint__" ⟨[a],[]⟩:=by
 unfold argsOk;rw[signature?_of (id:="reversed.__length_hint__") (n:=['_','_','t','n','i','h','_','h','t','g','n','e','l','_','_']) (o:=['d','e','s','r','e','v','e','r']) (by kernel_rfl) oB];kernel_rfl
end F
section
variable {prog:NE}{w:NH}{A:NG}{E:Nt}{s:Ny}
def zQ(x:Str)(t:Tok)(i:Int):Obj:={cls:=.type "reversed",data:=.fields #[.str x t,rawInt i]}
def Heap.IsRvs(h:Heap)(a:Addr)(x:Str)(t:Tok)(i:Int):Prop:=∃o,h.get? a=some o/\o.cls=.type "reversed"/\o.data=.fields #[.str x t,rawInt i]
theorem Heap.IsRvs.typeIs{t:Tok}{i:Int}(y:s.heap.IsRvs a x t i):s.TypeIs (.ref a) "reversed":=let ⟨o,ho,hc,_⟩:=y;⟨o,ho,hc⟩
theorem Heap.IsRvs.at{h h':Heap}{t:Tok}{i:Int}(y:h.IsRvs a x t i)(e:∀o,h.get? a=some o->h'.get? a=some o):h'.IsRvs a x t i:=let ⟨o,ho,r⟩:=y;⟨o,e _ ho,r⟩
theorem jH{it:Addr}{t:Tok}{i c:Nat}{Q:Option Value->Shared->Prop}(hit:s.heap.IsRvs it x t (i:Int))(hx:x.cps[i]?=some c)(hsz:i<2 ^ 63)
  (hQ:∀h' tk tk',h'.IsRvs it x t ((i:Int)-1)->Heap.SameBut it s.heap h'->Q (some (.str ⟨#[c]⟩ tk)) {s with heap:=h',toks:=tk' }):wpAny (model prog w) A (pyNext (.ref it)) Q E s:=by
 obtain⟨o,g,l,b⟩:=id hit;have j:i<x.length:=(Array.getElem?_eq_some_iff.mp hx).1;unfold pyNext;refine q04 (wpAny_attempt (wpAny_callSpecial?_slot (name:=Str.ofString "__next__") hit.typeIs F.slot_rvs_next
  (wpAny_call_entry F.slot_rvs_next hit.typeIs F.entry_rvs_next ?_ (F.args_rvs_next_1 _))))
 unfold Builtin.«reversed.__next__»;refine q04 (wpAny_of_eq (a:=(Value.ref it,[])) rfl ?_)
 try dsimp only
 refine q04 (wpAny_field g b (x:=.str x t) rfl ?_);refine q04 (wpAny_field g b (x:=rawInt (i:Int)) rfl ?_);show wpAny _ _ (if(i:Int)<0 then _ else _) _ _ s;rw[q06 ⋯];refine q04 (wpAny_specialOf (typeIs_str s x t) F.slot_str_getitem.lookup ?_)
 try dsimp only
 first
 |rw[q06 (show ¬ ((some (Value.builtin "str.__getitem__")).isNone=true) from MY)]
 |skip
 refine q04 (wpAny_mkInt ?_);refine q04 (wpAny_attempt ?_);have m:(seqIndex? (i:Int) x.length).bind (x.cps[·]?)=some c:=by
  have e:seqIndex? (i:Int) x.length=some i:=by
   have k:¬ ((i:Int)<0):=by omega
   unfold seqIndex?;simp[k,j]
  rw[e];exact hx
 refine P.getItem_str (c:=c) (by simp;omega) m ?_;dsimp only;refine q04 (wpAny_field g b (x:=rawInt (i:Int)) rfl ?_);show wpAny _ _ (setField (Value.ref it) 1 (rawInt ((i:Int)-1)) >>= λ_=>ret (Value.str ⟨#[c]⟩ _)) _ _ _;refine q04 (wpAny_setField g b (by simp) ?_);refine q05 ⟨_,rfl,q05 (hQ _ _ _ ?_ (Heap.SameBut.update ..))⟩;exact⟨_,MJ _ g (Obj.isFreed_of_fields (Obj.data_mapFields b _)),(Obj.cls_mapFields ..).trans l,by
  rw[Obj.data_mapFields b];simp⟩
theorem kh{it:Addr}{t:Tok}{Q:Option Value->Shared->Prop}(hh:A.handled=none)(hit:s.heap.IsRvs it x t (-1))
  (hQ:∀h',Heap.ExtBut it s.heap h'->Q none {s with heap:=h' }):wpAny (model prog w) A (pyNext (.ref it)) Q E s:=by
 obtain⟨o,e,hc,c⟩:=id hit;unfold pyNext;refine q04 (wpAny_attempt (wpAny_callSpecial?_slot (name:=Str.ofString "__next__") hit.typeIs F.slot_rvs_next
  (wpAny_call_entry F.slot_rvs_next hit.typeIs F.entry_rvs_next ?_ (F.args_rvs_next_1 _))))
 unfold Builtin.«reversed.__next__»;refine q04 (wpAny_of_eq (a:=(Value.ref it,[])) rfl ?_)
 try dsimp only
 refine q04 (wpAny_field e c (x:=.str x t) rfl ?_);refine q04 (wpAny_field e c (x:=rawInt (-1)) rfl ?_);show wpAny _ _ (if(-1:Int)<0 then _ else _) _ _ s;rw[q07 nofun];refine q04 (wpAny_rule ?_);show wpAny _ _ ((setField (Value.ref it) 1 (rawInt (-1)) >>= λ_=>setField (Value.ref it) 0 .none) >>= _) _ _ _;refine q04 (q04 (wpAny_setField e c (by simp) ?_));have g:=MJ (Obj.mapFields (·.setIfInBounds 1 (rawInt (-1)))) e (Obj.isFreed_of_fields (Obj.data_mapFields c _));refine wpAny_setField g (Obj.data_mapFields c _) (by simp) ?_;dsimp only;show wpAny _ _ (SmallTypes.stopIteration >>= _) _ _ _;refine q04 ?_;unfold SmallTypes.stopIteration
 first
 |show wpAny _ _ (newExc (.type "StopIteration") [] >>= _) _ _ _
 | (refine q04 ?_;show wpAny _ _ (newExc (.type "StopIteration") [] >>= _) _ _ _)
 refine q04 ?_;simp only[newExc,newTuple];refine q04 (wpAny_newObj_type ?_ (by size_fits));refine q04 (m:=firstArgMember _ _) (wpAny_of_eq (a:=Value.none) (by first | rfl | (simp only[firstArgMember];rfl)) ?_);refine wpAny_newObj_type ?_ (by size_fits);simp only[raiseNew];refine q04 (wpAny_handled ?_)
 first | rw[show A.in1.handled=none from hh] | rw[hh]
 refine q04 (q05 (wpAny_throw ?_));refine q04 (wpAny_isInstance (T:="StopIteration") (b:=true) ⟨_,MF _ rfl,rfl⟩ isSubtype_stop ?_);refine q05 (hQ _ ?_);intro b ob j k;exact Mz _ (Mz _ ((ME _ _ (Ne.symm j)).trans ((ME _ _ (Ne.symm j)).trans k)))
theorem iQ{it:Addr}{t:Tok}{i:Int}{Q:Nt}(hit:s.heap.IsRvs it x t i)(h:Q (.ref it) s):wpAny (model prog w) A (pyIter (.ref it)) Q E s:=by
 refine wpAny_pyIter_slot hit.typeIs F.slot_rvs_iter (wpAny_call_entry F.slot_rvs_iter hit.typeIs F.entry_rvs_iter ?_ (F.args_rvs_iter_1 _));show wpAny _ _ (ret (.ref it)) _ _ s;exact q05 ⟨_,rfl,"reversed",_,hit.typeIs,F.slot_rvs_next.lookup,h⟩
theorem hint_rvs{it:Addr}{t:Tok}{i:Int}{Q:Nt}(hit:s.heap.IsRvs it x t i)(hi:i<x.length)(hz:x.length<=sizeLine)
  (h:∀u tk,s.toks<=tk->Q (.int (i+1) u) {s with toks:=tk}):wpAny (model prog w) A (call (.builtin "reversed.__length_hint__") [.ref it]) Q E s:=by
 obtain⟨o,b,hc,c⟩:=id hit;refine wpAny_call_entry F.slot_rvs_hint hit.typeIs F.entry_rvs_hint ?_ (F.args_rvs_hint_1 _);unfold Builtin.«reversed.__length_hint__»;refine q04 (wpAny_of_eq (a:=Value.ref it) rfl ?_);refine q04 (wpAny_field b c (x:=.str x t) rfl ?_);show wpAny _ _ (if(Value.str x t==Value.none)=true then _ else _) _ _ s;rw[q06 (show ¬ ((Value.str x t==Value.none)=true) from λz=>by cases(eq_of_beq z))];have hs:sizeLine=16777216:=q0R;refine q04 (P.len_str ⋯ ?_);refine q04 (m:=asInt? _) (q05 ?_);dsimp only;refine q04 (wpAny_field b c (x:=rawInt i) rfl ?_);show wpAny _ _ (if(x.length:Int)<i+1 then _ else _) _ _ _;rw[q06 ⋯];show wpAny _ _ (mkInt (i+1) >>= λv=>ret v) _ _ _;exact q04 (wpAny_mkInt (q05 ⟨_,rfl,h _ _ (by simp;omega)⟩))
theorem Walks.rvs{A:NG}(hh:A.handled=none)(I:Addr)(x:Str)(t:Tok)(hz:x.length<=sizeLine) :
  Walks prog w A I [I] [I] x.length (λi v=>∃c tk,x.cps[x.length-1-i]?=some c/\v=.str ⟨#[c]⟩ tk) (λi h=>i<=x.length/\h.IsRvs I x t ((x.length:Int)-1-(i:Int))) where
 sub:=λb hb=>hb
 frame:=λ_ _ _ y hk=>⟨y.1,y.2.at λo e=>hk I (by simp) o e⟩
 item:=λi s Q E hi y hQ=>by
  have e:(x.length:Int)-1-(i:Int)=((x.length-1-i:Nat):Int):=by omega
  have a:=y.2;rw[e]at a;have hb:x.length-1-i<x.cps.size:=by have:x.length=x.cps.size:=rfl;omega
  have p:x.cps[x.length-1-i]?=some (x.cps[x.length-1-i]'hb):=Array.getElem?_eq_getElem hb;have hs:sizeLine=16777216:=q0R;refine jH a p ⋯ λm tk j g k=>?_;have q:((x.length-1-i:Nat):Int)-1=(x.length:Int)-1-((i+1:Nat):Int):=by omega
  rw[q]at g;exact hQ _ m j ⟨_,tk,p,rfl⟩ ⟨hi,g⟩ λb o hb n=>k.extBut b o (λh=>hb (by simp[h])) n
 done:=λs Q E y hQ=>by
  have e:(x.length:Int)-1-(x.length:Int) = -1:=by omega
  have a:=y.2;rw[e]at a;exact kh hh a λm l=>hQ m s.toks λb o hb n=>l b o (λh=>hb (by simp[h])) n
 self:=λ_ _ _ _ y hQ=>iQ y.2 hQ
theorem mO{t:Tok}{Q:List Value->Shared->Prop}(hh:A.handled=none)(hit:s.heap.IsRvs I x t ((x.length:Int)-1))(hz:x.length<=sizeLine)
  (hQ:∀s' acc,Moved [I] (λa b=>b=a) s s'->ItemsOf (λi v=>∃c tk,x.cps[x.length-1-i]?=some c/\v=.str ⟨#[c]⟩ tk) acc x.length->Q acc.toList s'):wpAny (model prog w) A (collect (.ref I)) Q E s:=by
 have W:=(Walks.rvs (prog:=prog) (w:=w) (A:=A.in1) hh I x t hz).toS;have hn:x.length<=sizeLine:=hz;have hst:(λi (s:Ny)=>i<=x.length/\s.heap.IsRvs I x t ((x.length:Int)-1-(i:Int))) 0 s:=⟨MX _,by simpa using hit⟩;have hT:∀i (s:Ny),(i<=x.length/\s.heap.IsRvs I x t ((x.length:Int)-1-(i:Int)))->s.TypeIs (.ref I) "reversed":=λi s y=>y.2.typeIs;have hlt:I<s.heap.objs.size:=by obtain⟨o,ho,_⟩:=hit;exact MZ ho
 have hSI:s.heap.objs.size≠I:=λe=>M7 _ (e▸hlt);have hSf:s.heap.objs.size∉[I]:=λhm=>hSI (MB.mp hm);unfold collect;refine q04 (wpAny_runValue (codeAny_builtin F.entry_proto_collect ?_));rw[Around.under_plainId F.plain_proto_collect _];show wpAny _ A.in1 (newList [] >>= λl=>again (.builtin "list.__iadd__" ⟨[l,.ref I],[]⟩)) _ _ s;refine q04 (wpAny_newObj_type ?_);refine q05 ⟨plainId_quiet F.plain_list_iadd _,codeAny_builtin F.entry_list_iadd ?_⟩;rw[Around.under_plainId F.plain_list_iadd _];have hst₁:=W.frame 0 s (s.heap.push {cls:=.type "list",data:=.seq ([]:List Value).toArray}) s.toks hst (MW _) λb _ o e=>Mz _ e;have hS₁:(s.heap.push {cls:=.type "list",data:=.seq ([]:List Value).toArray}).get? s.heap.objs.size=some {cls:=.type "list",data:=.seq ([]:List Value).toArray}:=MF _ rfl;have h1:Builtin.List.listSameRef (.ref s.heap.objs.size) (.ref I)=false:=by simp[Builtin.List.listSameRef,hSI]
 show wpAny _ A.in1 (Builtin.List.listExtendWith (.ref s.heap.objs.size) (.ref I) (.ref s.heap.objs.size)) _ _ _;unfold Builtin.List.listExtendWith;refine q04 (wpAny_typeOf (hT 0 _ hst₁) ?_);rw[q06 (by rw[h1];decide)];refine q04 (W.self 0 _ _ _ hst₁ ?_);refine q04 (q0T ?_);unfold Builtin.List.listLengthHint;refine q04 (wpAny_specialOf (hT 0 _ hst₁) F.nolen_rvs ?_);show wpAny _ A.in1 (specialOf (Value.ref I) (Str.ofString "__length_hint__") >>= _) _ _ _;refine q04 (wpAny_specialOf (hT 0 _ hst₁) F.hint_rvs ?_)
 (generalize hid:("reversed.__length_hint__":String)=id0;(fail_if_success (clear hid id0));wp_delta;rw[show splitId id0=some ("reversed","__length_hint__") from by subst hid;decide +kernel];subst hid)
 refine q04 (wpAny_isInstance (b:=true) (hT 0 _ hst₁) (by rw[isSubtype_type];kernel_rfl) ?_);rw[q06 (show ¬ ((!true)=true) by decide)];dsimp only
 split
 ·rename_i hsil
  exact q0N hsil (by decide +kernel)
 refine q04 (wpAny_rule ?_);refine q04 (wpAny_of_eq (F.slot_rvs_hint.bind _) ?_);dsimp only;refine q04 (wpAny_attempt ?_);refine hint_rvs (i:=(x.length:Int)-1-((0:Nat):Int)) hst₁.2 ⋯ hz λu tk htk=>?_;dsimp only;have hs:sizeLine=16777216:=q0R;have hk:Builtin.List.listTooLong (Int.toNat ((x.length:Int)-1-((0:Nat):Int)+1))=false:=by
  unfold Builtin.List.listTooLong;have e:Int.toNat ((x.length:Int)-1-((0:Nat):Int)+1)=x.length:=by omega
  rw[e]
  simpa using hz
 refine q04 (m:=asInt? (.int _ u)) (q05 ?_);dsimp only;have hfit:Builtin.List.listFitsIndex ((x.length:Int)-1-((0:Nat):Int)+1)=true:=by
  unfold Builtin.List.listFitsIndex;simp;omega
 rw[q06 (by rw[hfit];decide),q06 ⋯,q06 (by rw[hk];decide)];refine q05 ?_
 -- the loop,from a list that may have been touched
 have fin:∀(h₂:Heap) (c:Nat),(∀b o,b≠s.heap.objs.size->(s.heap.push {cls:=.type "list",data:=.seq ([]:List Value).toArray}).get? b=some o->h₂.get? b=some o) ->
   h₂.get? s.heap.objs.size=some {cls:=.type "list",data:=.seq ([]:List Value).toArray c} ->
   codeAny (model prog w) A (.builtin "list.extend.loop" ⟨[.ref s.heap.objs.size,.ref I,.ref s.heap.objs.size],[]⟩) (λr s'=>match r with
    | .ok (.ret v)=>wpAny (model prog w) A (match v with
     | .ref a=>do
      let __do_lift <- load a
      match __do_lift.data with
       | .seq xs _=>pure xs.toList
       |_=>unsupported "internal:collect"
     |_=>unsupported "internal:collect") Q E s'
    | .ok _=>False
    | .error e=>E e s') {s with heap:=h₂,toks:=tk}:=λh₂ c keep hS₂=>by
  have hst₂:(λi (s:Ny)=>i<=x.length/\s.heap.IsRvs I x t ((x.length:Int)-1-(i:Int))) 0 {s with heap:=h₂,toks:=tk}:=⟨MX _,hst₁.2.at λo e=>keep I o (Ne.symm hSI) e⟩;refine codeAny_extend_loopS W hn _ hSf _ x.length 0 _ _ _ rfl (MX _) hst₂ hS₂ (ItemsOf.nil _) λs' acc' c' hm hS' hacc=>?_;show wpAny _ A (load s.heap.objs.size >>= _) _ _ s';refine q04 (wpAny_load hS' ?_);refine q05 (hQ s' acc' ?_ hacc);exact⟨λb ob hb e=>hm.heap b ob (λhm'=>by
    rcases MO.mp hm' with e1 | hm'
    ·exact q0N (e1▸MZ e) (M7 _)
    ·exact hb hm') (keep b ob (λe1=>q0N (e1▸MZ e) (M7 _)) (Mz _ e)),hm.gens,hm.drawn,hm.os,M6 htk hm.toks⟩
 have quiet:=plainId_quiet F.plain_extend_loop (⟨[.ref s.heap.objs.size,.ref I,.ref s.heap.objs.size],[]⟩:Args)
 split
 ·refine q04 (wpAny_rule ?_)
  show wpAny _ A.in1 ((updateSeq s.heap.objs.size (·.push .none) >>= λ_=>updateSeq s.heap.objs.size (·.pop)) >>= _) _ _ _;refine q04 (q04 (wpAny_updateSeq hS₁ rfl ?_ (by simp) (by simp)));have q1:=PySem.IsL.update (h:=s.heap.push {cls:=.type "list",data:=.seq ([]:List Value).toArray}) (l:=s.heap.objs.size) (items:=([]:List Value).toArray) (n:=0) hS₁ (·.push .none);refine wpAny_updateSeq q1 rfl ?_ (by simp;omega) (by simp);have q2:=PySem.IsL.update q1 (·.pop);exact q05 ⟨quiet,fin _ _ (λb o hb e=>(ME _ _ (Ne.symm hb)).trans ((ME _ _ (Ne.symm hb)).trans e)) (show _=some ({cls:=.type "list",data:=.seq ([]:List Value).toArray _}:Obj) from q2)⟩
 ·exact q05 ⟨quiet,fin _ _ (λb o hb e=>e) hS₁⟩
theorem Dj{sep:Str}{t:Tok}{Q:Nt}(hh:A.handled=none)(hit:s.heap.IsRvs I x t ((x.length:Int)-1))(hz:x.length<=1000)(hsep:sep.length<=1000)
  (h:∀(s':Ny) (t':Tok) (k:Nat),(∀b o,b≠I->s.heap.get? b=some o->s'.heap.get? b=some o)->s'.gens=s.gens->s'.drawn=s.drawn->s'.os=s.os ->
   Q (.str (Txt.join sep (x.cps.toList.reverse.map λc=>(⟨#[c]⟩:Str))) t') {s' with toks:=k}):wpAny (model prog w) A (call (.builtin "str.join") [.str sep t0,.ref I]) Q E s:=by
 have hs:sizeLine=16777216:=q0R;refine wpAny_call (codeAny_call_builtin F.slot_str_join.plain F.entry_str_join (F.slot_str_join.check _ _ _ _ _ _ _ _ (typeIs_str _ _ _) (F.args_str_join_2 _ _) ?_));rw[join_tree_other];refine q04 (wpAny_typeOf hit.typeIs ?_);show wpAny _ A.in1 ((pyIter (.ref I)).tryCatch _ >>= λY=>collect Y >>= λu=>joinTail sep u) _ _ s;refine q04 (wpAny_tryCatch (iQ hit ?_));refine q04 (mO hh hit ⋯ λs' C D m=>?_);obtain⟨l,G⟩:=exists_strValues C.toList λv Z=>by
  obtain⟨j,J,rfl⟩:=Array.mem_iff_getElem.mp (Array.mem_toList_iff.mp Z);obtain⟨c,U,_,e⟩:=m.2 j _ (Array.getElem?_eq_getElem J);exact⟨_,_,e⟩
 have B:l.map (·.1)=x.cps.toList.reverse.map λc=>(⟨#[c]⟩:Str):=by
  have el:l.length=x.length:=by
   have q:=q0O List.length G;simp[strValues]at q;rw[q];exact m.1
  refine List.ext_getElem (by simp[el];rfl) λj h1 h2=>?_;simp only[List.getElem_map,List.getElem_reverse];have J:j<l.length:=by simpa using h1
  have ha:C.toList[j]?=some (Value.str (l[j]).1 (l[j]).2):=by
   rw[<- G];simp[strValues,J]
  have O:C[j]?=some (Value.str (l[j]).1 (l[j]).2):=by simpa using ha
  obtain⟨c,U,T,e⟩:=m.2 j _ O
  injection e with S _
  rw[S];have M:x.length-1-j<x.cps.size:=by have:x.length=x.cps.size:=rfl;omega
  rw[Array.getElem?_eq_getElem M]at T;have L:=q0P T;rw[<- L];simp only[Array.length_toList,Array.getElem_toList]
  rfl
 rw[<- G];have n:JoinOk sep (l.map (·.1))=true:=by
  unfold JoinOk;rw[StrLaws.joinTotal];have S:((l.map (·.1)).map (·.length)).sum=x.length:=by
   rw[B,MN];have:((λy:Str=>y.length)∘λc=>(⟨#[c]⟩:Str))=λ_=>1:=by funext c;rfl
   rw[this,List.map_const',List.sum_replicate_nat];simp
   rfl
  have e2:(l.map (·.1)).length=x.length:=by rw[B];simp;rfl
  rw[S,e2];have:x.length*sep.length<=1000*1000:=Nat.mul_le_mul hz hsep;unfold tooLong;rw[q08 ⋯]
  rfl
 have a:=λt' k=>h s' t' k (λb o M e=>D.heap b o (λz=>M (MB.mp z)) e) D.gens D.drawn D.os;unfold JoinOk at n;rw[Bool.not_eq_true']at n;have g:Gives (joinTail sep (strValues l)) (joinMade sep l):=by
  have R:=gives_joinTail sep l n;cases l with
  |nil=>exact R
  |cons p r=>cases r with
   |nil=>exact R
   |cons q r'=>exact R
 rw[<- B]at a;exact g prog w A (wants Q E) s' (post_join l ⟨joinFit_length n,a⟩)
end
namespace F
theorem su:Slot "reversed" "__init__" "object.__init__":=
 .of (owner:="object") (n:="__init__") (by rw[typeLookup_type,builtinLookup_eq_fast];kernel_rfl) (by decide +kernel) (by decide +kernel) (by decide +kernel)
  (by first | exact .inl (by decide +kernel) | exact .inr (by decide +kernel)) (by rw[isSubtype_type];kernel_rfl)
theorem Aj:mroOf (.type "reversed")=pure [.type "reversed",.type "object"]:=by rw[mroOf_type];kernel_rfl
theorem qx:typeLookup (.type "reversed") "__new__"=pure (some (.builtin "reversed.__new__")):=by rw[typeLookup_type,builtinLookup_eq_fast];kernel_rfl
theorem rvs_called:TypeCalled "reversed" "reversed.__new__" "object.__init__":=
 ⟨by decide +kernel,by decide +kernel,⟨_,_,Aj⟩,madeBy_type Aj qx (by decide +kernel),by decide +kernel,by rw[isSubtype_type];kernel_rfl,su⟩
theorem rvs_typeCall_1(a:Value):checkTypeCall "reversed" ⟨[a],[]⟩=pure ():=by kernel_rfl
theorem rvs_newCall_1(a:Value):checkBuiltinCall "reversed.__new__" ⟨[.type "reversed",a],[]⟩=pure ():=by kernel_rfl
theorem rvs_entry_new:entryFor table "reversed.__new__"=some Builtin.«reversed.__new__»:=entryFor_of_tree (by kernel_rfl)
theorem rvs_sub:isSubtype (.type "reversed") (.type "reversed")=pure true:=by rw[isSubtype_type];kernel_rfl
theorem rvs_nostr:typeLookup (.type "str") "__reversed__"=pure none:=by rw[typeLookup_type,builtinLookup_eq_fast];kernel_rfl
end F
section
variable {prog:NE}{w:NH}{A:NG}{E:Nt}{s:Ny}
theorem vm(a:Value):Builtin.SmallTypes.newClass "reversed" ⟨[.type "reversed",a],[]⟩=pure (.type "reversed",[a]):=by
 unfold Builtin.SmallTypes.newClass;simp only[isType,F.rvs_sub,pure_bind,Bool.not_true,q0V,if_false]
theorem sM(x:Str)(t:Tok)(hz:x.length<=sizeLine):Meets (Builtin.«reversed.__new__» ⟨[.type "reversed",.str x t],[]⟩)
  (λ_ R s=>R (.ok (.ret (.ref s.heap.objs.size))) {s with heap:=s.heap.push (zQ x t ((x.length:Int)-1)),toks:=s.toks+1+1}):=
 .of_wp λprog w A R s h=>by
  have hs:sizeLine=16777216:=q0R;unfold Builtin.«reversed.__new__»;refine q04 (wpAny_of_eq (vm _) ?_)
  try dsimp only
  refine q04 (wpAny_of_eq (a:=()) (by first | rfl | kernel_rfl) ?_);refine q04 (wpAny_of_eq (a:=()) (by first | rfl | kernel_rfl) ?_)
  try dsimp only
  refine q04 (wpAny_specialOf (typeIs_str s x t) F.rvs_nostr ?_)
  try dsimp only
  refine q04 ?_;refine q04 (wpAny_isInstance (T:="str") (b:=false) (typeIs_str s x t) (by rw[isSubtype_type];kernel_rfl) ?_);rw[q06 nofun];refine q04 (wpAny_specialOf (typeIs_str s x t) F.slot_str_getitem.lookup ?_);dsimp only
  split
  ·refine q05 ?_
   rw[q06 nofun];refine q04 (P.len_str ⋯ ?_);refine q04 (m:=asInt? _) (q05 ?_);dsimp only;show wpAny _ _ (newObj (.type "reversed") (.fields #[.str x t,rawInt ((x.length:Int)-1)]) >>= λv=>ret v) _ _ _;exact q04 (wpAny_newObj_type (q05 ⟨_,rfl,h⟩))
  ·rename_i hn
   exact q0N (by decide +kernel) hn
theorem mX{x:Str}{t:Tok}{Q:Nt}(hz:x.length<=sizeLine)
  (h:Q (.ref s.heap.objs.size) {s with heap:=s.heap.push (zQ x t ((x.length:Int)-1)),toks:=s.toks+1+1}):wpAny (model prog w) A (call (.type "reversed") [.str x t]) Q E s:=
 callType_new F.rvs_called nofun (F.rvs_typeCall_1 _) (F.rvs_newCall_1 _) (λobj=>F.args_object_init_2 obj _) F.rvs_entry_new (sM x t hz) ⟨⟨_,MF _ rfl,rfl⟩,h⟩
end
end PySem
namespace L2
open PySem PySem.Spec PyProof.Rows
def gi(env:Env):List (Str×NameKind)->List (Str×Addr)->List (Str×Addr)
 | [],acc=>acc
 | (n,k)::r,acc=>if k==.free then gi env r ((n,(env.cells.lookup n).getD 0)::acc) else gi env r acc
theorem pk{env:Env}:∀(ns:List (Str×NameKind)) (acc:List (Str×Addr)),(∀x∈ns,x.2=.free->∃c,env.cells.lookup x.1=some c) ->
  (forIn ns acc fun(x:Str×NameKind) (cs:List (Str×Addr))=>(if x.2==.free then do
    let c <- cellOf env x.1
    pure (ForInStep.yield ((x.1,c)::cs))
   else pure (ForInStep.yield cs):Sem (ForInStep (List (Str×Addr)))))=pure (gi env ns acc)
 | [],acc,_=>rfl
 | (n,k)::r,acc,h=>by
  have ih:=λa=>pk (env:=env) r a λx hx=>h x (MP _ hx);rw[List.forIn_cons]
  by_cases hk:k=.free
  ·subst hk
   obtain⟨c,hc⟩:=h (n,.free) q0B rfl;have hc':env.cells.lookup n=some c:=hc;have e1:cellOf env n=pure c:=by unfold cellOf;rw[hc']
   simp only[gi,hc',q0I];show((do let c <- cellOf env n;pure (ForInStep.yield ((n,c)::acc))) >>= _)=_;rw[e1,pure_bind,pure_bind];exact ih _
  ·have b:(k==NameKind.free)=false:=by simpa using hk
   simp only[gi,b,q0V,if_false];rw[pure_bind];exact ih _
theorem jM{env:Env}{scope:Scope}(h:∀x∈scope.names,x.2=.free->∃c,env.cells.lookup x.1=some c) :
  closureFor scope env=pure (gi env scope.names []):=by
 unfold closureFor;have e:=pk (env:=env) scope.names [] h;have a:(forIn scope.names ([]:List (Str×Addr)) λx b=>(match x with
   | (name,kind)=>if kind==.free then do
     let c <- cellOf env name
     pure (ForInStep.yield ((name,c)::b))
    else pure (ForInStep.yield b):Sem (ForInStep (List (Str×Addr)))))=pure (gi env scope.names []):=e
 simp only[]at a ⊢
 first
  | (rw[a];rfl)
  | (erw [a];rfl)
theorem iY{env:Env}:∀{ns:List (Str×NameKind)} {acc:List (Str×Addr)} {x:Str} {c:Addr},(∀y∈ns,y.2=.free->∃c,env.cells.lookup y.1=some c) ->
  (∀y c,acc.lookup y=some c->env.cells.lookup y=some c)->(gi env ns acc).lookup x=some c->env.cells.lookup x=some c
 | [],_,_,_,_,ha,e=>ha _ _ e
 | (n,k)::r,acc,x,c,h,ha,e=>by
  have hr:∀y∈r,y.2=.free->∃c,env.cells.lookup y.1=some c:=λy hy=>h y (MP _ hy);unfold gi at e
  by_cases hk:k=.free
  ·subst hk
   rw[q07 (by simp)]at e;obtain⟨c',hc⟩:=h (n,.free) q0B rfl;have hc':env.cells.lookup n=some c':=hc;refine iY hr (λy d z=>?_) e;rw[hc',q0I,List.lookup_cons]at z
   by_cases q:y=n
   ·subst q
    simp at z;subst z;exact hc'
   ·have q':(y==n)=false:=by simpa using q
    rw[q']at z;exact ha y d z
  ·rw[q06 (by simpa using hk)]at e
   exact iY hr ha e
theorem pU{env:Env}:∀{ns:List (Str×NameKind)} {acc:List (Str×Addr)} {x:Str},((∃c,acc.lookup x=some c)\/(x,NameKind.free)∈ns)->∃c,(gi env ns acc).lookup x=some c
 | [],_,_,h=>by
  rcases h with h | h
  ·exact h
  ·exact nomatch h
 | (n,k)::r,acc,x,h=>by
  unfold gi
  by_cases hk:k=.free
  ·subst hk
   rw[q07 (by simp)];refine pU ?_
   by_cases q:x=n
   ·subst q
    left
    simp[List.lookup_cons]
   ·have q':(x==n)=false:=by simpa using q
    rcases h with⟨c,h⟩ | h
    ·exact .inl ⟨c,by rw[List.lookup_cons,q'];exact h⟩
    ·rcases MO.mp h with z | z
     ·cases z
      exact q0N rfl q
     ·exact .inr z
  ·rw[q06 (by simpa using hk)]
   refine pU ?_;rcases h with h | h
   ·exact .inl h
   ·rcases MO.mp h with z | z
    ·cases z
     exact q0N rfl hk
    ·exact .inr z
def xL(scope osc:Scope):Scope:=
 {scope with names:=scope.names.map fun(n,k)=>if(k==.free&&osc.kind==.function&&osc.names.lookup n==some .cell) then(n,.cell) else(n,k)}
def DO(scope osc:Scope):Bool:=
 (scope.kind==.function)&&(osc.kind==.function)&&scope.names.all fun(n,k)=>(k != .free || !scope.names.contains (n,NameKind.cell))&&(k != .local||scope.names.lookup n==some .local) &&
  (k != .free||osc.names.lookup n==some .cell||osc.names.lookup n==some .free)&&(k != .free||(xL scope osc).names.lookup n != some .local)
structure bE(scope osc:Scope):Prop where
 kind:scope.kind=.function
 sep:∀x∈scope.names,x.2=.free->(x.1,NameKind.cell)∉scope.names
 loc:∀x∈scope.names,x.2=.local->scope.names.lookup x.1=some .local
 free:∀x∈scope.names,x.2=.free->osc.names.lookup x.1=some .cell\/osc.names.lookup x.1=some .free
 nl:∀x∈scope.names,x.2=.free->(xL scope osc).names.lookup x.1≠some .local
theorem bE.of{scope osc:Scope}(h:DO scope osc=true):bE scope osc:=by
 unfold DO at h;rw[q0L,q0L,Nh]at h;obtain⟨⟨h1,h0⟩,h2⟩:=h;refine⟨by simpa using h1,λx a e=>?_,λx a e=>?_,λx a e=>?_,λx a e=>?_⟩
 all_goals
  obtain⟨n,k⟩:=x;have q:=h2 (n,k) a;simp only[q0L,Bool.or_eq_true,bne_iff_ne,beq_iff_eq]at q
 ·have z:=q.1.1.1.resolve_left (λz=>z e)
  simpa using z
 ·exact q.1.1.2.resolve_left (λz=>z e)
 ·rcases q.1.2 with(z | z) | z
  ·exact q0N e z
  ·exact .inl z
  ·exact .inr z
 ·exact q.2.resolve_left (λz=>z e)
theorem gI{osc:Scope}:∀{ns:List (Str×NameKind)} {x:Str} {k':NameKind},
  (ns.map fun(n,k)=>if(k==NameKind.free&&osc.kind==.function&&osc.names.lookup n==some .cell) then(n,NameKind.cell) else(n,k)).lookup x=some k' ->
  (k'=.cell\/k'=.free)->(x,NameKind.free)∈ns\/(x,NameKind.cell)∈ns
 | [],_,_,h,_=>by simp at h
 | (n,k)::r,x,k',h,hk'=>by
  rw[M5]at h
  by_cases q:x=n
  ·subst q
   by_cases z:(k==NameKind.free&&osc.kind==.function&&osc.names.lookup x==some .cell)=true
   ·have:k=.free:=by
     simp only[q0L,beq_iff_eq]at z;exact z.1.1
    subst this;exact .inl q0B
   ·simp only[z,q0V,if_false]at h
    rw[List.lookup_cons]at h;simp at h;subst h;rcases hk' with e | e
    ·subst e;exact .inr q0B
    ·subst e;exact .inl q0B
  ·have a:(x==n)=false:=by simpa using q
   refine(gI (osc:=osc) (k':=k') (ns:=r) (x:=x) ?_ hk').imp (MP _) (MP _)
   by_cases z:(k==NameKind.free&&osc.kind==.function&&osc.names.lookup n==some .cell)=true
   ·simp only[z,if_true]at h
    rw[List.lookup_cons,a]at h;exact h
   ·simp only[z,q0V,if_false]at h
    rw[List.lookup_cons,a]at h;exact h
theorem j8:∀(ns:List (Str×NameKind)) (n:Nat) (acc:List (Str×Addr)),cellsFrom n ns acc=cellsFrom n ns []++acc
 | [],_,_=>rfl
 | (x,k)::r,n,acc=>by
  unfold cellsFrom
  split
  ·rw[j8 r (n+1) ((x,n)::acc),j8 r (n+1) [(x,n)],M_];rfl
  ·exact j8 r n acc
theorem wo:∀{ns:List (Str×NameKind)} {n:Nat} {x:Str} {c:Addr},(x,c)∈cellsFrom n ns []->(x,NameKind.cell)∈ns
 | [],_,_,_,h=>nomatch h
 | (y,k)::r,n,x,c,h=>by
  unfold cellsFrom at h
  split at h
  ·rename_i hk
   rw[j8]at h;rcases MM.mp h with h | h
   ·exact MP _ (wo h)
   ·cases MB.mp h
    have:k=.cell:=by simpa using hk
    subst this;exact q0B
  ·exact MP _ (wo h)
theorem uK:∀{ns:List (Str×NameKind)} {n:Nat} {x:Str} {acc:List (Str×Addr)},((x,NameKind.cell)∈ns\/∃c,acc.lookup x=some c)->∃c,(cellsFrom n ns acc).lookup x=some c
 | [],_,_,_,h=>h.elim (λz=>nomatch z) id
 | (y,k)::r,n,x,acc,h=>by
  unfold cellsFrom
  split
  ·refine uK ?_
   by_cases q:x=y
   ·subst q
    exact .inr ⟨n,by simp[List.lookup_cons]⟩
   ·have q':(x==y)=false:=by simpa using q
    rcases h with h | ⟨c,h⟩
    ·rcases MO.mp h with z | z
     ·cases z;exact q0N rfl q
     ·exact .inl z
    ·exact .inr ⟨c,by rw[List.lookup_cons,q'];exact h⟩
  ·rename_i hk
   refine uK ?_;rcases h with h | h
   ·rcases MO.mp h with z | z
    ·cases z;exact q0N rfl hk
    ·exact .inl z
   ·exact .inr h
def fo(env:Env)(scope:Scope)(C:Addr):List (Str×Addr):=cellsFrom (C+1) scope.names (gi env scope.names [])
theorem mU:∀{ns:List (Str×NameKind)} {n:Nat} {x:Str} {c:Addr},(x,c)∈cellsFrom n ns []->n<=c
 | [],_,_,_,h=>nomatch h
 | (y,k)::r,n,x,c,h=>by
  unfold cellsFrom at h
  split at h
  ·rw[j8]at h
   rcases MM.mp h with h | h
   ·exact M6 (Nat.le_succ _) (mU h)
   ·cases MB.mp h
    exact MW _
  ·exact mU h
theorem qD:∀{ns:List (Str×NameKind)} {n:Nat},(cellsFrom n ns []).Pairwise λx y=>x.2≠y.2
 | [],_=>List.Pairwise.nil
 | (y,k)::r,n=>by
  unfold cellsFrom
  split
  ·rw[j8]
   refine List.pairwise_append.mpr ⟨qD,by simp,λa ha b hb e=>?_⟩;cases MB.mp hb;have:=mU (x:=a.1) (c:=a.2) ha;rw[e]at this;exact q0N this (Nat.not_succ_le_self _)
  ·exact qD
theorem jA{env:Env}{scope:Scope}{c:Addr}(h:(fo env scope C).lookup x=some c) :
  ((x,c)∈cellsFrom (C+1) scope.names []/\C<c/\(x,NameKind.cell)∈scope.names)\/((cellsFrom (C+1) scope.names []).lookup x=none/\(gi env scope.names []).lookup x=some c):=by
 unfold fo at h;rw[j8,List.lookup_append]at h;cases q:(cellsFrom (C+1) scope.names []).lookup x with
 |none=>rw[q]at h;exact .inr ⟨rfl,h⟩
 |some d=>
  rw[q]at h;cases h;have:=mem_of_lookup q;exact .inl ⟨this,mU this,wo this⟩
theorem Eh{ns:List (Str×NameKind)}{x:Str}(h:(x,NameKind.cell)∉ns):(cellsFrom n ns []).lookup x=none:=by
 cases q:(cellsFrom n ns []).lookup x with
 |none=>rfl
 |some d=>exact q0N (wo (mem_of_lookup q)) h
section
variable {M:Model}{A:NG}{E:Nt}{s:Ny}
theorem gs{scope:Scope}{globals:Addr}{closure:List (Str×Addr)}{qual:Str}{func:NJ}{code:Value}{outer:Env}{builtins:Addr}{Q:Env->Shared->Prop}
  (hQ:Q (newEnv scope s.heap.objs.size globals (cellsFrom (s.heap.objs.size+1) scope.names closure) qual func code (some outer) builtins) {s with heap:=pushCells (s.heap.push {cls:=.type "dict",data:=.dict #[]}) scope.names}) :
  wpAny M A (newFunctionEnv scope globals closure [] qual func code (some outer) builtins) Q E s:=by
 simp only[newFunctionEnv,Option.isSome_some,if_true];simp only[newEnv]at hQ;refine q04 (wpAny_alloc ?_);refine q04 (wpAny_layCells _ (λname a cells=>by cases b:a==NameKind.cell<;>simp[b]) _ _ _ _ ?_);rw[show({s with heap:=s.heap.push {cls:=.type "dict",data:=.dict #[]} }:Shared).heap.objs.size=s.heap.objs.size+1 from Heap.size_push ..];rw[List.forIn_nil];exact q04 (q05 (q05 hQ))
end
def Cx.blk(X:Cx)(N':NF)(s₂:Ny)(H₂:Hp)(scope:Scope)(fp:NA)(C:Addr):Cx where
 prog:=X.prog
 w:=X.w
 K:=X.K
 mg:=X.mg
 base:=X.base
 A:=X.A
 N:=N'
 s₀:=s₂
 H₀:=H₂
 env:=compEnvC scope (fo X.env scope C) C X.env
 outer:=X.stack
 stack:=X.stack
 ex:=fp
 fn:=λx=>scope.names.contains (x,NameKind.cell)
 calm:=X.calm
 pn:=[]
 xe:=λ_ _=>False
def tF(k:Nat)(js:Nw)(σ:St):St:=List.replicate k none++js.map λj=>(σ[j]?).join
def rH(own:NF)(js:Nw)(N:NF):List Str:=own++js.map λj=>N.getD j Str.empty
section
variable {X:Cx}
theorem Inv.capFree{pins:Nv}{σ:St}{scope:Scope}(I:Inv X pins σ H s)(hk:bE scope X.env.scope):∀x∈scope.names,x.2=.free->∃c,X.env.cells.lookup x.1=some c:=
 λx hx e=>I.ok.has x.1 (hk.free x hx e)
theorem Inv.capL{pins:Nv}{σ:St}{scope:Scope}{c:Addr}(I:Inv X pins σ H s)(hk:bE scope X.env.scope)(e:(gi X.env scope.names []).lookup x=some c):X.env.cells.lookup x=some c:=
 iY (I.capFree hk) (λ_ _ z=>by simp at z) e
theorem Inv.blkL{pins:Nv}{σ:St}{scope:Scope}{c:Addr}(I:Inv X pins σ H s)(hk:bE scope X.env.scope)(e:(fo X.env scope C).lookup x=some c) :
  ((x,c)∈cellsFrom (C+1) scope.names []/\C<c/\(x,NameKind.cell)∈scope.names)\/X.env.cells.lookup x=some c:=
 (jA e).imp id λz=>I.capL hk z.2
theorem Hh{pins:Nv}{σ:St}{scope:Scope}{fp:NA}{C:Addr}(I:Inv X pins σ H s)(hk:bE scope X.env.scope)(hC:s.heap.objs.size<=C)
  (hf:∀b∈fp,pI X pins H b) (ho:∀b∈fp,∃o,s.heap.get? b=some o):(X.blk N' s H scope fp C).Ok where
 mod:=I.ok.mod
 kind:=hk.kind
 glob:=I.ok.glob
 blt:=I.ok.blt
 above:=hC
 inj:=λx y c e1 e2=>by
  have low:∀z,X.env.cells.lookup z=some c->c<C:=λz e=>by
   obtain⟨v,q⟩:=I.cell z c e;exact MR q.lt hC
  rcases I.blkL hk e1 with⟨a1,a2,_⟩ | a<;>rcases I.blkL hk e2 with⟨b1,b2,_⟩ | b
  ·exact name_of_addr qD a1 b1
  ·exact q0N (low _ b) (Nat.not_lt.mpr (q0M a2))
  ·exact q0N (low _ a) (Nat.not_lt.mpr (q0M b2))
  ·exact I.ok.inj x y c a b
 has:=λx h=>by
  refine uK ?_;have z:(x,NameKind.free)∈scope.names\/(x,NameKind.cell)∈scope.names:=by
   rcases h with h | h
   ·exact gI (osc:=X.env.scope) h (.inl rfl)
   ·exact gI (osc:=X.env.scope) h (.inr rfl)
  rcases z with z | z
  ·exact .inr (pU (.inr z))
  ·exact .inl z
 cab:=λx c z e=>by
  have l:(x,NameKind.cell)∈scope.names:=by
   have k:scope.names.contains (x,NameKind.cell)=true:=z
   simpa using k
  have j:(fo X.env scope C).lookup x=some c:=e;rcases jA j with⟨_,a,_⟩ | ⟨a,_⟩
  ·exact M6 hC (q0M a)
  ·obtain⟨d,q⟩:=uK (n:=C+1) (acc:=[]) (.inl l)
   rw[a]at q;cases q
 hd:=I.ok.hd
 frames:=I.ok.frames
 stk:=.inl rfl
 exf:=λb g=>⟨λe=>by
  obtain⟨o,q⟩:=ho b g;have j:b=C:=e;rw[j]at q;exact q0N (MZ q) (Nat.not_lt.mpr hC),λx c e=>by
  rcases I.blkL hk e with⟨_,a,_⟩ | a
  ·obtain⟨o,q⟩:=ho b g
   intro z;rw[z]at a;exact q0N (MR (MZ q) hC) (Nat.not_lt.mpr (q0M a))
  ·exact(hf b g).2.2.2.2.1 x c a⟩
 bs:=I.bs
 bsz:=M6 I.ok.bsz I.sz
 noex:=λb o e g=>by
  rcases(hf b g).2.2.2.1 with z | z
  ·exact I.ok.noex b o e z
  ·exact q0N (MZ (I.ok.bs b o e).1) (Nat.not_lt.mpr z)
 exfs:=λb g m=>by
  rcases MO.mp (I.stkSub b m) with z | z
  ·exact(hf b g).2.1 z
  ·exact(hf b g).2.2.1 z
 funs:=I.stack
 frf:=I.stkFree
theorem Ce{pins:Nv}{σ:St}{s1:Ny}{own:NF}{js:Nw}{scope:Scope}{fp:NA}{C:Addr}(I:Inv X pins σ H s)(hk:bE scope X.env.scope)(hC:s.heap.objs.size<=C)
  (hf:∀b∈fp,pI X pins H b) (ho:∀b∈fp,∃o,s.heap.get? b=some o) (hos:s1.os=s.os) (hg:s1.gens=s.gens) (hn:s1.heap.Ns C m) (keep:∀b o,s.heap.get? b=some o->s1.heap.get? b=some o)
  (hown:∀x c,(x,c)∈cellsFrom (C+1) scope.names []->s1.heap.IsCell c none) (hcap:(js.all λj=>scope.names.contains (X.N.getD j Str.empty,NameKind.free))=true) :
  Inv (X.blk (rH own js X.N) s H scope fp C) [] (tF own.length js σ) H s1:=by
 have cl:=fun{x:Str} {c:Addr} (e:(gi X.env scope.names []).lookup x=some c)=>iY (I.capFree hk) (λ_ _ z=>by simp at z) e;refine⟨Hh I hk hC hf ho,hos,hg▸I.bare,Un.kept keep,⟨m,hn,λi x v e1 e2 Z=>?_⟩,λx c e=>?_,I.hok.fresh hC,λx c e=>(I.blkL hk e).elim (λz=>I.hok.fresh (M6 hC (q0M z.2.1))) λz=>I.freeC x c z,λp R=>(nomatch R),I.hok.kept keep,?_⟩
 ·have g:(own++js.map λj=>X.N.getD j Str.empty)[i]?=some x:=e1
  have a:(List.replicate own.length none++js.map λj=>(σ[j]?).join)[i]?=some (some v):=e2
  by_cases B:i<own.length
  ·rw[MU (by rw[List.length_replicate];exact B),List.getElem?_replicate,q07 B]at a
   cases a
  ·have l:own.length<=i:=Nat.le_of_not_lt B
   rw[MT (by rw[List.length_replicate];exact l),List.length_replicate,MC]at a;rw[MT l,MC]at g;cases D:js[i-own.length]? with
   |none=>rw[D]at g;cases g
   |some j=>
    rw[D]at g a;have L:X.N.getD j Str.empty=x:=q0P g;have r:(σ[j]?).join=some v:=q0P a;have J:σ[j]?=some (some v):=by
     cases q:σ[j]? with
     |none=>rw[q]at r;cases r
     |some z=>rw[q]at r;simp at r;rw[r]
    have y:j<X.N.length:=by rw[<- I.len];exact(My.mp J).1
    have U:X.N[j]?=some x:=by rw[<- L,q0A,Mx y];rfl
    have w:(x,NameKind.free)∈scope.names:=by
     have q:=Nh.mp hcap j (MD D);rw[L]at q
     simpa using q
    have G:=hk.free _ w rfl;obtain⟨mo,hno,S⟩:=I.loc;obtain⟨u,M,O⟩:=S j x v U J (G.elim (λz=>.inr (.inl z)) λz=>.inr (.inr z));refine⟨u,M,?_⟩;rcases O with⟨k,_⟩ | ⟨k,c,Y,T⟩
    ·rcases G with z | z
     ·rw[show X.env.kindOf x=X.env.scope.names.lookup x from rfl,z]at k;cases k
     ·rw[show X.env.kindOf x=X.env.scope.names.lookup x from rfl,z]at k;cases k
    ·obtain⟨c',n⟩:=pU (env:=X.env) (ns:=scope.names) (acc:=[]) (x:=x) (.inr w)
     have:=cl n;rw[Y]at this;cases this;refine .inr ⟨?_,c,?_,T.keeps keep⟩
     case refine_2=>
      show(fo X.env scope C).lookup x=some c;unfold fo;rw[j8,List.lookup_append,Eh (hk.sep _ w rfl)];exact n
     -- its kind within the block
     rcases Z with z | z | z
     ·exact q0N z (hk.nl _ w rfl)
     ·exact .inl z
     ·exact .inr z
 ·rcases I.blkL hk e with z | z
  ·exact⟨none,hown x c z.1⟩
  ·obtain⟨v,z⟩:=I.cell x c z
   exact⟨v,z.keeps keep⟩
 ·show(List.replicate own.length none++js.map λj=>(σ[j]?).join).length=(own++js.map λj=>X.N.getD j Str.empty).length
  simp
def GR(env:Env)(ifs:NK):Sem Bool:=forIn ifs true λc r=>if r=true then do let ok <- isTrue c env (eval c env);pure (ForInStep.yield ok) else pure (ForInStep.yield r)
theorem wc{prog:NE}{A:NG}{R:Result->Shared->Prop}{s:Ny}{elt target iter:Expr}{ifs:NK}{scope:Scope}{pos:Pos}{it acc:Value}{env:Env}(I:Nat->Shared->Prop)
  (turn:∀n s,I n s->wpAny (model prog w) A (pyNext it) (λr s₁=>match r with
   |none=>R (.ok .next) s₁
   |some v=>wpAny (model prog w) A (letOwnedTupleGo target it v) (λ_ s₁'=>wpAny (model prog w) A (assign target env v) (λ_ s₂=>
     wpAny (model prog w) A (GR env ifs) (λok s₃=>
      if ok=true then wpAny (model prog w) A (eval elt env) (λx s₄=>
       wpAny (model prog w) A (call (.builtin "list.append") [acc,x]) (λ_ s₅=>∃m,m<n/\I m s₅) (λ_ _=>False) s₄) (λ_ _=>False) s₃
      else ∃m,m<n/\I m s₃) (λ_ _=>False) s₂) (λ_ _=>False) s₁') (λ_ _=>False) s₁) (λ_ _=>False) s)
  (n:Nat) (h:I n s) :
  codeAny (model prog w) A (.compLoop (.ListComp elt [⟨target,iter,ifs,0⟩] scope pos) 0 it acc env) R s:=by
 refine codeAny_loop rfl I (λn s o=>?_) n h;show wpAny _ A ((compTurn (.ListComp elt [⟨target,iter,ifs,0⟩] scope pos) 0 it acc env).onRaise (λx=>do noteFrame x env;theTreesLotGoes x)) _ _ s;refine wpAny_noted ?_;rw[compTurn_list];have up:∀{α:Type} {t:Sem α} {Q Q':α->Shared->Prop} {E':Nt} {s:Ny},wpAny (model prog w) A t Q (λ_ _=>False) s->(∀a s,Q a s->Q' a s)->wpAny (model prog w) A t Q' E' s:=
  λh l=>q0S h l λ_ _ f=>f.elim
 refine q04 (wpAny_standAt (q04 (up (turn n s o) λr s₁ e=>?_)));cases r with
 |none=>exact q05 e
 |some v=>
  refine q04 (up e λ_ s₁' b=>q04 (up b λ_ s₂ k=>q04 (up k λok s₃ c=>?_)));cases ok with
  |false=>exact q05 ⟨rfl,c⟩
  |true=>
   exact q04 (q04 (up c λx s₄ j=>q04 (up j λ_ s₅ g=>q05 (q05 ⟨rfl,g⟩))))
def IL(X:Cx)(ifs:NK)(t:TT):Prop:=
 ∀(pins:Nv) (s:Ny) (σ:St) (H:Hp) (Q:Bool->Hp->Prop),Inv X pins σ H s->t σ H Q->wpAny (model X.prog X.w) X.A (GR X.env ifs) (TP X pins σ Q) X.xe s
def Af:TT:=λ_ H Q=>Q true H
theorem ce:IL X [] Af:=λpins s σ H Q I h=>wpAny_tests_nil ⟨H,I,h⟩
theorem Ga{t:TT}(h:PT X c t):IL X [c] t:=λpins s σ H Q I q=>wpAny_tests_one (h pins s σ H Q I q)
def jy(J:It)(g:TG)(ti:TT)(te:TE)(σ:St)(H:Hp)(Q:List V->Hp->Prop):Prop:=
 ∃W:Nat->Nat->List V->St->Hp->Prop,(∃m,W 0 m [] σ H)/\∀i m acc σ' H',W i m acc σ' H' ->
  acc.length<sizeLine/\((J.stop i H'/\Q acc H') \/
   (J.go i H'/\∃N:List V->St->Hp->Prop,(∀acc' σ2 H2,N acc' σ2 H2->∃m',m'<m/\W (i+1) m' acc' σ2 H2) /\
    ∀x H2,J.yld i H' x H2->g x σ' H2 λσ2 H3=>ti σ2 H3 λb H4=>if b=true then te σ2 H4 λv H5=>N (acc++[v]) σ2 H5 else N acc σ2 H4))
def AV(k:Nat)(js:Nw)(wi:TI)(g:TG)(ti:TT)(te:TE):TE:=λσ H Q=>wi σ H λJ H1=>jy J g ti te (tF k js σ) H1 λacc H'=>∀l,H' l=none->Q (.ref l) (ay H' l (.lst acc))
abbrev iy(its:Nz)(n:Nat):Obj:={cls:=.type "list",data:=.seq its.toArray n}
theorem uk{pins:Nv}{σ:St}{H:Hp}{s:Ny}{elt tg iter:Expr}{ifs:NK}{scope:Scope}{pos:Pos}{own:NF}{js:Nw}{ti:TT}{te:TE}{fp:NA}{it:Addr}{tn:Nat->Heap->Prop}{E:Nt}
  {RR:Value->Addr->Result->Shared->Prop} (hc:X.calm=true) (hk:bE scope X.env.scope) (hcap:(js.all λj=>scope.names.contains (X.N.getD j Str.empty,NameKind.free))=true)
  (hg:∀s H fp C,PG (X.blk (rH own js X.N) s H scope fp C) tg g) (hi:∀s H fp C,IL (X.blk (rH own js X.N) s H scope fp C) ifs ti) (he:∀s H fp C,PE (X.blk (rH own js X.N) s H scope fp C) elt te)
  (I:Inv X pins σ H s) (T:rG X.prog X.w X.K tg J fp it tn) (st:tn 0 s.heap) (hf:∀b∈fp,pI X pins H b)
  (hW:jy J g ti te (tF own.length js σ) H Q)
  (hRR:∀(D C:Addr) (s':Ny) (H':Hp) (acc:List V) (m:NC),Q acc H'->H' D=none->Inv X pins σ (ay H' D (.lst acc)) s'->s'.heap.Ns C m->ay H' D (.lst acc) C=none->C≠X.env.locals->X.s₀.heap.objs.size<=C ->
   (∀x c,X.env.cells.lookup x=some c->c≠C)->(∀p∈X.pn++pins,p.1≠C)->RR (.ref D) C (.ok .next) s') :
  wpAny (model X.prog X.w) X.A (newList []) (λacc s₃=>wpAny (model X.prog X.w) X.A (newFunctionEnv scope X.env.globals (gi X.env scope.names []) [] X.env.qual none .none (some X.env)) (λcenv s₄=>
   codeAny (model X.prog X.w) X.A (.compStart (.ListComp elt [⟨tg,iter,ifs,0⟩] scope pos) 0 (.ref it) acc {cenv with scope:=relabel scope X.env}) (RR acc cenv.locals) s₄) E s₃) E s:=by
 obtain⟨W,⟨m0,w0⟩,c2⟩:=hW;refine wpAny_newObj_type (gs ?_);dsimp only;generalize b4:s.heap.push {cls:=.type "list",dict:=none,data:=.seq ([]:List Value).toArray}=H2;generalize d0:pushCells (H2.push {cls:=.type "dict",data:=.dict #[]}) scope.names=h₁;have b1:∀b o,(H2.push {cls:=.type "dict",data:=.dict #[]}).get? b=some o->h₁.get? b=some o:=λb o e=>d0▸pushCells_keeps _ _ b o e;have c6:h₁.Ns H2.objs.size λ_=>none:=by
  have q:(H2.push {cls:=.type "dict",data:=.dict #[]}).Ns H2.objs.size λ_=>none:=Heap.Ns.new ..;exact q.at' λo e=>b1 _ o e
 have b2:∀x c,(x,c)∈cellsFrom (H2.objs.size+1) scope.names []->h₁.IsCell c none:=λx c e=>by
  have ok:=cellsFrom_ok scope.names (H2.push {cls:=.type "dict",data:=.dict #[]}) (H2.objs.size+1) [] ⟨λ_ _ hm=>(nomatch hm),List.Pairwise.nil⟩ (by rw[Heap.size_push];exact MW _);rw[Heap.size_push,d0]at ok;exact(ok.empty x c e).1
 have hC:H2.objs.size=s.heap.objs.size+1:=by rw[<- b4,Heap.size_push]
 have c0:s.heap.objs.size≠H2.objs.size:=by rw[hC];exact MS (M8 _)
 have L:s.heap.objs.size<=H2.objs.size:=by rw[hC];exact Nat.le_succ _
 have c1:∀b,b<s.heap.objs.size->b≠H2.objs.size/\b≠s.heap.objs.size:=λb l=>⟨by rw[hC];exact MS (Nat.lt_succ_of_lt l),MS l⟩;have old:∀b o,s.heap.get? b=some o->h₁.get? b=some o:=λb o e=>b1 b o (Mz _ (b4▸Mz _ e));have d1:h₁.get? s.heap.objs.size=some (iy [] 0):=b1 _ _ (Mz _ (b4▸MF _ rfl));have a0:∀b∈fp,∃o,s.heap.get? b=some o:=λb l=>let ⟨o,e,_⟩:=T.obj 0 _ st b l;⟨o,e⟩
 have c3:tn 0 h₁:=T.keep 0 _ _ st λb _ o e=>old b o e;generalize B:X.blk (rH own js X.N) s H scope fp H2.objs.size=Xb;have I₁:Inv Xb [] (tF own.length js σ) H {s with heap:=h₁}:=B▸Ce I hk L hf a0 rfl rfl c6 old b2 hcap;have eP:Xb.prog=X.prog:=by rw[<- B];rfl
 have ew:Xb.w=X.w:=by rw[<- B];rfl
 have eK:Xb.K=X.K:=by rw[<- B];rfl
 have eA:Xb.A=X.A:=by rw[<- B];rfl
 have ec:Xb.calm=true:=by rw[<- B];exact hc
 have eE:Xb.env=compEnvC scope (fo X.env scope H2.objs.size) H2.objs.size X.env:=by rw[<- B];rfl
 have ex:Xb.xe=λ_ _=>False:=by rw[<- B];rfl
 have es:Xb.s₀=s:=by rw[<- B];rfl
 have eh:Xb.H₀=H:=by rw[<- B];rfl
 have ef:Xb.fs=lS X.stack:=by rw[<- B];rfl
 have e0:Xb.ex=fp:=by rw[<- B];rfl
 have ep:Xb.pn=[]:=by rw[<- B];rfl
 have eL:Xb.env.locals=H2.objs.size:=by rw[eE];rfl
 have e9:H s.heap.objs.size=none:=I.hok.fresh (MW _)
 -- D is no iterator's,no frame's
 have d6:∀b∈fp,b≠s.heap.objs.size:=λb l e=>by
  obtain⟨o,q⟩:=a0 b l;rw[e]at q;exact q0N (MZ q) (M7 _)
 have e8:s.heap.objs.size∉Xb.fs:=λz=>by
  rw[ef]at z;rcases MO.mp (I.stkSub _ z) with q | q
  ·exact q0N I.lt (by rw[<- q];exact M7 _)
  ·exact I.nofs (MW _) q
 have a5:∀x c,Xb.env.cells.lookup x=some c->c≠s.heap.objs.size:=λx c e q=>by
  rcases I.blkL hk (C:=H2.objs.size) (x:=x) (c:=c) (by rw[eE]at e;exact e) with⟨_,z,_⟩ | z
  ·rw[q]at z
   exact q0N L (Nat.not_le.mpr z)
  ·obtain⟨v,o,ho,_⟩:=I.cell x c z
   rw[q]at ho;exact q0N (MZ ho) (M7 _)
 have R:∀{pl:Nv} {H':Hp},(∀b∈fp,H' b=none)->(∀p∈pl,p.1=s.heap.objs.size)->∀b∈fp,pI Xb pl H' b:=λhn S b l=>by
  refine⟨hn b l,?_,?_,.inl (by rw[e0];exact l),λx c e=>?_,λp c5=>?_⟩
  ·rw[eL];exact(c1 b (let ⟨o,q⟩:=a0 b l;MZ q)).1
  ·rw[ef];intro z
   rcases MO.mp (I.stkSub b z) with q | q
   ·exact(hf b l).2.1 q
   ·exact(hf b l).2.2.1 q
  ·rcases I.blkL hk (C:=H2.objs.size) (x:=x) (c:=c) (by rw[eE]at e;exact e) with⟨_,z,_⟩ | z
   ·intro q
    rw[q]at z;obtain⟨o,q2⟩:=a0 b l;exact q0N (MR (MZ q2) L) (Nat.not_lt.mpr (q0M z))
   ·exact(hf b l).2.2.2.2.1 x c z
  ·rw[ep,Nk]at c5
   rw[S p c5];exact(d6 b l).symm
 have a6:∀s₃:Shared,s₃={s with heap:=h₁} ->
   codeAny (model X.prog X.w) X.A (.compLoop (.ListComp elt [⟨tg,iter,ifs,0⟩] scope pos) 0 (.ref it) (.ref s.heap.objs.size) (compEnvC scope (fo X.env scope H2.objs.size) H2.objs.size X.env))
    (RR (.ref s.heap.objs.size) H2.objs.size) s₃:=by
  rintro s₃ rfl;refine wc (λn s'=>∃(i:Nat) (acc:List V) (a:Nz) (k:Nat) (σ':St) (H':Hp),Inv Xb [] σ' H' s'/\tn i s'.heap/\(∀b∈fp,H' b=none)/\H' s.heap.objs.size=none/\s'.heap.get? s.heap.objs.size=some (iy a k)/\bo acc a/\W i n acc σ' H')
   ?_ m0 ⟨0,[],[],0,_,H,I₁,c3,λb l=>(hf b l).1,e9,d1,.nil,w0⟩
  rintro n s' ⟨i,acc,a,k,σ',H',I',st',d7,M,e3,Z,w'⟩;obtain⟨c9,tt⟩:=c2 i n acc σ' H' w'
  -- the gathered list,pinned
  have Ip:Inv Xb [(s.heap.objs.size,iy a k)] σ' H' s':=I'.pins_of λp S=>by
   have e:p=(s.heap.objs.size,iy a k):=by simpa using S
   subst e;exact⟨e3,M,by rw[eL];exact c0,e8,λv z=>by cases z⟩
  have b0:∀p∈[(s.heap.objs.size,iy a k)],p.1=s.heap.objs.size:=λp S=>by
   have e:p=(s.heap.objs.size,iy a k):=by simpa using S
   rw[e]
  rcases tt with⟨c4,q⟩ | ⟨go,N,hN,step⟩
  ·have d:=T.done Xb eP ew eK ec i _ s' σ' H' (λ_ _=>False) Ip (R d7 b0) st' c4
   rw[eA]at d;refine q0S d (λr s1 hr=>?_) λ_ _ z=>z;obtain⟨rfl,I1⟩:=hr;have e2:s1.heap.get? s.heap.objs.size=some (iy a k):=(I1.pin _ (q0C _ (MB.mpr rfl))).1;obtain⟨mC,b3,_⟩:=I1.loc;rw[eL]at b3;obtain⟨oC,_,_,hoC,_⟩:=id b3;have f0:H' H2.objs.size=none:=by have:=I1.free;rwa [eL]at this
   have ub:Un (lS X.stack) fp H H' s.heap s1.heap:=by have:=I1.base;rwa [ef,e0,eh,es]at this
   refine hRR _ _ s1 H' acc mC q M ?_ b3 ?_ ?_ ?_ ?_ ?_
   ·-- wj outside
    refine I.call' (ch:=fp) (by have:=I1.os;rwa [es]at this) ⟨λb o e n1 h1 h2=>ub.keep b o e n1 h1 h2,λb o e n1 h1 h2=>ub.slot b o e n1 h1 h2,λb o e n1 h1=>?_,ub.there,λb xs e=>?_,λb o u e=>?_,λb ps e=>?_⟩ ?_ (by have:=I1.bare;exact this) λb l=>?_
    ·rw[ao (λz=>by rw[z]at e;exact q0N (MZ e) (M7 _))]
     exact ub.free b o e n1 h1
    ·rw[ao (aI (ub.tups b xs e) M)]
     exact ub.tups b xs e
    ·rw[ao (aI (ub.frzs b o u e) M)]
     exact ub.frzs b o u e
    ·obtain⟨more,z⟩:=ub.tbls b ps e
     exact⟨more,by rw[ao (aI z M)];exact z⟩
    ·intro b u e
     have a7:=I1.hok;rw[eP,ew]at a7
     by_cases l:b=s.heap.objs.size
     ·subst l
      rw[ad]at e;cases e;exact⟨q0M c9,a,k,Z,e2⟩
     ·rw[ao l]at e
      refine(a7 b u e).stay (λc v _ z=>z) (λc z=>?_) λc xs z=>?_
      ·rw[ao (aI z M)];exact z
      ·rw[ao (aI z M)];exact z
    ·exact⟨(hf b l).2.2.2.1,(hf b l).2.1,(hf b l).2.2.2.2.1,(hf b l).2.2.2.2.2⟩
   ·rw[ao c0.symm];exact f0
   ·intro z;have:=I.lt;rw[<- z]at this;exact q0N this (Nat.not_lt.mpr L)
   ·exact M6 I.sz L
   ·intro x c e z
    obtain⟨v,o,ho,_⟩:=I.cell x c e;rw[z]at ho;exact q0N (MZ ho) (Nat.not_lt.mpr L)
   ·intro p S z
    have:=(I.pin p S).1;rw[z]at this;exact q0N (MZ this) (Nat.not_lt.mpr L)
  ·have d:=T.item Xb eP ew eK ec i _ s' σ' H' (λ_ _=>False) Ip (R d7 b0) st' go
   rw[eA]at d;refine q0S d (λr s1 hr=>?_) λ_ _ z=>z;obtain⟨u,rfl,d2⟩:=hr;refine q0S d2 (λ_ s2 e7=>?_) λ_ _ z=>z;obtain⟨x,e1,I2,r2,y2,a9,f1⟩:=e7;have f2:=I2.pinned (R f1 b0) (T.obj _ _ a9);have G:=B▸hg s H fp H2.objs.size;have d3:=G _ s2 σ' e1 x u _ f2 r2 (step x e1 y2);rw[eP,ew,eA,ex,eE]at d3;refine q0S d3 (λ_ s3 e6=>?_) λ_ _ z=>z;obtain⟨σ3,H3,I3,q3⟩:=e6;have Gi:=B▸hi s H fp H2.objs.size;have d4:=Gi _ s3 σ3 H3 _ I3 q3;rw[eP,ew,eA,ex,eE]at d4;refine q0S d4 (λb s4 e5=>?_) λ_ _ z=>z;obtain⟨H4,I4,q4⟩:=e5;have U:∀{O:Ny} {Y:Hp} {σ5:St},Inv Xb ([(s.heap.objs.size,iy a k)]++rf fp s2.heap) σ5 Y O->O.heap.get? s.heap.objs.size=some (iy a k)/\Y s.heap.objs.size=none/\tn (i+1) O.heap/\∀b∈fp,Y b=none:=fun{O Y σ5} I5=>by
    have pD:=I5.pin (s.heap.objs.size,iy a k) (q0C _ (List.mem_append_left _ (MB.mpr rfl)));refine⟨pD.1,pD.2.1,T.keep _ _ _ a9 λb l o e=>(I5.pin (b,o) (q0C _ (q0C _ (i6 l e)))).1,λb l=>?_⟩;obtain⟨o,e,_⟩:=T.obj _ _ a9 b l;exact(I5.pin (b,o) (q0C _ (q0C _ (i6 l e)))).2.1
   have bare:∀{O:Ny} {Y:Hp} {σ5:St} {pl:Nv},Inv Xb pl σ5 Y O->Inv Xb [] σ5 Y O:=λI5=>I5.pins_of λp S=>nomatch S;cases b with
   |false=>
    obtain⟨m',hm,w5⟩:=hN _ _ _ q4;obtain⟨a1,a2,a3,a4⟩:=U I4;exact⟨m',hm,i+1,acc,a,k,σ3,H4,bare I4,a3,a4,a2,a1,Z,w5⟩
   |true=>
    have Ge:=B▸he s H fp H2.objs.size;have d5:=Ge _ s4 σ3 H4 _ I4 q4;rw[eP,ew,eA,ex,eE]at d5;refine q0S d5 (λy O e4=>?_) λ_ _ z=>z;obtain⟨v,Y,I5,r5,q5⟩:=e4;obtain⟨m',hm,w5⟩:=hN _ _ _ q5;obtain⟨a1,a2,a3,a4⟩:=U I5;have hl:=Z.length;refine call_meets F.slot_list_append ⟨_,a1,rfl⟩ F.entry_list_append (F.args_list_append_2 _ _) (PySem.list_append s.heap.objs.size a.toArray k y (by rw[MG];omega)) ⟨a1,?_⟩;have qu:=PySem.IsL.update a1 (λa8=>a8.push y);have qe:(a.toArray.push y)=(a++[y]).toArray:=by simp
    rw[qe]at qu;have I6:Inv Xb [] σ3 Y {O with heap:=O.heap.update s.heap.objs.size (Obj.mapSeq λa8=>a8.push y),toks:=O.toks}:=
     (bare I5).turned (λb o l e=>(ME O.heap _ (Ne.symm l)).trans e) a2 (by rw[eL];exact c0) (.inr (by rw[es];exact MW _)) a5 (by rw[ep];intro p S;exact nomatch S)
    refine⟨m',hm,i+1,acc++[v],a++[y],_,σ3,Y,I6,T.keep _ _ _ a3 (λb l o e=>(ME O.heap _ (d6 b l).symm).trans e),a4,a2,qu,Z.append (.cons r5 .nil),w5⟩
 refine codeAny_compStart_list (a6 _ rfl) ?_;exact T.self _ 0 _ _ _ c3 (a6 _ rfl)
theorem cH{elt tg iter:Expr}{ifs:NK}{scope:Scope}{pos:Pos}(own:NF)(js:Nw){wi:TI}{g:TG}{ti:TT}{te:TE}(hc:X.calm=true)(hk:bE scope X.env.scope)
  (hcap:(js.all λj=>scope.names.contains (X.N.getD j Str.empty,NameKind.free))=true) (hw:PI X tg iter wi)
  (hg:∀s H fp C,PG (X.blk (rH own js X.N) s H scope fp C) tg g) (hi:∀s H fp C,IL (X.blk (rH own js X.N) s H scope fp C) ifs ti) (he:∀s H fp C,PE (X.blk (rH own js X.N) s H scope fp C) elt te)
  (hs:autoParam (∀x,foldedSetIterable iter X.env x=pure x) zz4._auto_1):PE X (.ListComp elt [⟨tg,iter,ifs,0⟩] scope pos) (AV own.length js wi g ti te):=by
 intro c s σ H Q I h;rw[eval_ListComp];refine wpAny_comprehension_free (use:=none) rfl hs (jM (I.capFree hk)) hk.kind hk.loc (bV (hw c s σ H _ I h) λv s1 h1=>bV h1 λitv s2 h2=>?_);obtain⟨it,fp,tn,J,H2,rfl,Y,T,k,U,R⟩:=h2;refine uk (RR:=λa C=>compPost (model X.prog X.w) X.A X.xe none (EP X c σ Q) a C) (Q:=λa B=>∀l,B l=none->Q (.ref l) (ay B l (.lst a))) hc hk hcap hg hi he Y T k U R ?_;intro D C L B a m q S Z M y u n r p;refine⟨m,M,λh' G=>?_⟩;exact⟨.ref D,_,Z.turned (t':=L.toks) (λb o O e=>(G.2 b O).trans e) y u (.inr n) r p,rfl,q D S⟩
theorem jp{i:Nat}{x:Str}{elt tg iter:Expr}{ifs:NK}{scope:Scope}{pos spos:Pos}{px:Pos}(own:NF)(js:Nw){wi:TI}{g:TG}{ti:TT}{te:TE}(hN:X.N.Nodup)(hxi:X.N[i]?=some x)(hx:Loc X.env.scope x)
  (hsw:swapsWith (.ListComp elt [⟨tg,iter,ifs,0⟩] scope pos) (some (.Name x px)) spos.line X.env=pure true)
  (hc:X.calm=true) (hk:bE scope X.env.scope)
  (hcap:(js.all λj=>scope.names.contains (X.N.getD j Str.empty,NameKind.free))=true) (hw:PI X tg iter wi)
  (hg:∀s H fp C,PG (X.blk (rH own js X.N) s H scope fp C) tg g) (hi:∀s H fp C,IL (X.blk (rH own js X.N) s H scope fp C) ifs ti) (he:∀s H fp C,PE (X.blk (rH own js X.N) s H scope fp C) elt te)
  (hs:autoParam (∀x,foldedSetIterable iter X.env x=pure x) zz4._auto_1) (hf:autoParam (X.fn x=true\/X.env.scope.names.lookup x=some .local) zz3._auto_1) :
  PS X (.Assign [.Name x px] (.ListComp elt [⟨tg,iter,ifs,0⟩] scope pos) spos) (AZ (AV own.length js wi g ti te) (lN i)):=by
 intro c s σ H Dn I h;rw[exec_Assign_Name_used _ _ _ _ hsw];refine q04 (wpAny_standAt (q04 ?_));show wpAny _ _ (do let _ <- comprehension (.ListComp elt [⟨tg,iter,ifs,0⟩] scope pos) scope X.env _ (newList []) false (eval iter X.env) (some (assign (.Name x px) X.env))) _ _ s;refine q04 (q0S (wpAny_comprehension_free (use:=some (assign (.Name x px) X.env)) (Q:=λ_ n=>SP X c Dn .next n) (E:=X.xe) rfl hs (jM (I.capFree hk)) hk.kind hk.loc ?_) (λ_ n q=>q05 (q05 q)) λ_ _ z=>z);refine(bV (hw c s σ H _ I h) λv s1 h1=>bV h1 λitv s2 h2=>?_);obtain⟨it,fp,tn,J,H2,rfl,I2,T,u,f2,hW⟩:=h2;refine uk (RR:=λk C=>compPost (model X.prog X.w) X.A X.xe (some (assign (.Name x px) X.env)) (λ_ n=>SP X c Dn .next n) k C) (Q:=λk U=>∀l,U l=none->lN i (.ref l) σ (ay U l (.lst k)) Dn.nx) hc hk hcap hg hi he I2 T u f2 hW ?_;intro D C n U k m q hD I' Y R r L p M;show wpAny _ _ (assign (.Name x px) X.env (.ref D)) _ _ n;refine wpAny_assign_Name (tV I' hN hxi hx (v:=.ref D) rfl (λG S B=>?_) hf);obtain⟨a,B,ha⟩:=B;have O:C≠a:=by
  rcases ha with z | z
  ·rw[z];exact r
  ·exact(p x a z).symm
 refine⟨m,Y.sameBut B O,λh' y=>?_⟩;exact⟨_,_,S.turned (t':=G.toks) (λb o Z e=>(y.2 b Z).trans e) R r (.inr L) p M,q D hD⟩
end
section
variable {K:Nu}{g:TG}{ti:TT}{te:TE}{σ:St}{H:Hp}{Q:List V->Hp->Prop}
theorem kN{J:It}{n:Nat}(Pv:Nat->List V->St->Hp->Prop)(h0:Pv 0 [] σ H)(hz:∀i acc σ H,Pv i acc σ H->acc.length<sizeLine)(hi:∀i acc σ H,Pv i acc σ H->i<=n)
  (stop:∀acc σ H,Pv n acc σ H->J.stop n H) (go:∀i acc σ H,i<n->Pv i acc σ H->J.go i H)
  (hs:∀i x acc σ H H2,i<n->Pv i acc σ H->J.yld i H x H2->g x σ H2 λσ2 H3=>ti σ2 H3 λb H4=>if b=true then te σ2 H4 λv H5=>Pv (i+1) (acc++[v]) σ2 H5 else Pv (i+1) acc σ2 H4)
  (he:∀acc σ H,Pv n acc σ H->Q acc H) :
  jy J g ti te σ H Q:=by
 refine⟨λi m acc σ H=>Pv i acc σ H/\m=n+1-i,⟨n+1,h0,rfl⟩,?_⟩;rintro i m acc σ' a ⟨w,rfl⟩;refine⟨hz i acc σ' a w,?_⟩;have hle:=hi i acc σ' a w;rcases Nat.lt_or_ge i n with c | hge
 ·refine .inr ⟨go i acc σ' a c w,λacc' σ2 H2=>Pv (i+1) acc' σ2 H2,λacc' σ2 H2 w2=>⟨n+1-(i+1),?_,w2,rfl⟩,λx H2 y=>hs i x acc σ' a H2 c w y⟩
  have:=hi (i+1) acc' σ2 H2 w2;omega
 ·have e:i=n:=by omega
  subst e;exact .inl ⟨stop acc σ' a w,he acc σ' a w⟩
theorem nO{xs:List V}(Pv:Nat->List V->St->Hp->Prop)(h0:Pv 0 [] σ H)(hz:∀i acc σ H,Pv i acc σ H->acc.length<sizeLine)(hi:∀i acc σ H,Pv i acc σ H->i<=xs.length)
  (hl:∀i acc σ H,Pv i acc σ H->aW K H a xs)
  (hs:∀i x acc σ H,xs[i]?=some x->Pv i acc σ H->g x σ H λσ2 H3=>ti σ2 H3 λb H4=>if b=true then te σ2 H4 λv H5=>Pv (i+1) (acc++[v]) σ2 H5 else Pv (i+1) acc σ2 H4)
  (he:∀acc σ H,Pv xs.length acc σ H->Q acc H):jy (Fr K a) g ti te σ H Q:=by
 exact kN (J:=Fr K a) (g:=g) (ti:=ti) (te:=te) (Q:=Q) (n:=xs.length) Pv h0 hz hi (λacc σ H w=>⟨xs,hl _ _ _ _ w,MW _⟩)
  (λi acc σ H hlt w=>⟨xs,xs[i],hl _ _ _ _ w,Mx hlt⟩) (λi x acc σ H H2 hlt w y=>by obtain⟨rfl,c⟩:=y;exact hs i x acc σ H2 (c xs (hl _ _ _ _ w)) w) he
theorem fD{lo:Int}{n:Nat}(Pv:Nat->List V->St->Hp->Prop)(h0:Pv 0 [] σ H)(hz:∀i acc σ H,Pv i acc σ H->acc.length<sizeLine)(hi:∀i acc σ H,Pv i acc σ H->i<=n)
  (hs:∀i acc σ H,i<n->Pv i acc σ H->g (.int (lo+i)) σ H λσ2 H3=>ti σ2 H3 λb H4=>if b=true then te σ2 H4 λv H5=>Pv (i+1) (acc++[v]) σ2 H5 else Pv (i+1) acc σ2 H4)
  (he:∀acc σ H,Pv n acc σ H->Q acc H):jy (CY lo n) g ti te σ H Q:=by
 exact kN (J:=CY lo n) (g:=g) (ti:=ti) (te:=te) (Q:=Q) (n:=n) Pv h0 hz hi (λacc σ H w=>MW _) (λi acc σ H hlt w=>hlt) (λi x acc σ H H2 hlt w y=>by obtain⟨rfl,rfl⟩:=y;exact hs i acc σ H2 hlt w) he
end
structure dU(P:NE)(w:NH)(K:Nu)(mg:NC)(base:Heap)(CX:kC)(k:Nat)(x:Str)(ps:NF)(sp:Sp):Prop where
 ex:∃(f:Addr) (fd:ND),aS P w K mg base CX k f fd ps sp/\mg x=some (.ref f)/\PySem.W.keepIn K (.ref f)=true/\cq K fd ps []
structure NB(mg:NC):Prop where
 len:mg "len"=none
 range:mg "range"=none
 list:mg "list"=none
 tuple:mg "tuple"=none
 isinstance:mg "isinstance"=none
 int:mg "int"=none
 bool:mg "bool"=none
 str:mg "str"=none
 reversed:mg "reversed"=none
 all:mg "all"=none
 enumerate:mg "enumerate"=none
 zip:mg "zip"=none
 sorted:mg "sorted"=none
 set:mg "set"=none
 dict:mg "dict"=none
 min:mg "min"=none
 max:mg "max"=none
 sum:mg "sum"=none
 ValueError:mg "ValueError"=none
section
variable {X:Cx}{CX:kC}{k:Nat}{x:Str}{ps:NF}{sp:Sp}{E:XK}{p pos:Pos}{e:Expr}{es:NK}{t:TA}
theorem aJ(C:dU X.prog X.w X.K X.mg X.base CX k x ps sp)(hr:dv k X.A)(hg:Gl X x)(hx:dr CX X E)(ha:PA X (e::es) t)(hdb:autoParam ((x==("__debug__":Str))=false) zz2._auto_1)
  (hst:autoParam (starEach (e::es) X.env=(false,eval e X.env)::starEach es X.env) zz0._auto_1) (hpl:autoParam ((backTo pos (starEach es X.env)).any (·.1)=false) zz0._auto_1):PE X (.Call (.Name x p) (e::es) [] pos) (pw sp [] E t):=by
 obtain⟨f,fd,F,a,b,c⟩:=C.ex;exact F8 F hr hg a b c .nil hx ha hdb hst hpl
end
section
variable {X:Cx}{tg:Expr}
def D9(_ j:Int):Prop:=0<j/\j<18446744073709551616
theorem bR:bc X (binaryOp .FloorDiv) (rI D9 λi j=>.int (i/j)):=IZ λi j _ _ _ _ _ hc q=>by
 have h1:(0:Int)<j:=hc.1;have h2:j<18446744073709551616:=hc.2;refine floordiv_int ⋯ (by rw[Int.fdiv_eq_ediv_of_nonneg i ⋯];exact q) (.inl (PyProof.noPylong_of_log2 ?_));have h64:j.natAbs.log2<64:=(Nat.log2_lt ⋯).mpr ⋯;omega
theorem mF:∀{ys:NF} {us:Nz},bo (ys.map V.str) us->StrsAre us ys
 | [],_,.nil=>.nil
 |y::ys,_,.cons r t=>by
  obtain⟨tk,rfl⟩:=r;exact .cons y tk (mF t)
def Ac(K:Nu):V->List V->Hp->VK->Prop:=λx xs H Q=>∃z p ys,x=.str z/\xs=[.ref p]/\(aW K H p (ys.map V.str)\/aZ K H p (ys.map V.str))/\(ys.map (·.length)).sum+ys.length*z.length<=16777216/\Q (.str (Txt.join z ys)) H
theorem FD:J9 X "str.join" (Ac X.K):=by
 intro pins s σ H x xs v us Q I rx rv h;obtain⟨z,p,ys,rfl,rfl,hs,e,q⟩:=h;obtain⟨t,rfl⟩:=rx;obtain⟨u,rfl,g⟩:=rv.one;cases g;rcases hs with hs | hs
 ·obtain⟨c,r,b,_⟩:=I.list hs
  exact join_list b.isList (by simpa using mF r) e λa k=>⟨.str _,H,I.tok k,⟨a,rfl⟩,q⟩
 ·obtain⟨c,r,b,_⟩:=I.tuple hs
  exact join_tuple b (by simpa using mF r) e λa k=>⟨.str _,H,I.tok k,⟨a,rfl⟩,q⟩
def IV(x:Str):It:=⟨λi _=>i<x.cps.size,λi H v H'=>H'=H/\∃c,x.cps[i]?=some c/\v=.str ⟨#[c]⟩,λi _=>x.cps.size<=i⟩
theorem Ej{K:Nu}(x:Str)(t:Tok)(it:Addr):rG P w K tg (IV x) [it] it (λi h=>h.IsStrIter it (strIterType x) x t i) where
 mem:=by simp
 obj:=λi h g b l=>by
  have e:b=it:=by simpa using l
  subst e;obtain⟨o,e,c,d⟩:=g;exact⟨o,e,λv z=>by rw[d]at z;cases z⟩
 keep:=λi h m g k=>by
  obtain⟨o,e,c,d⟩:=g;exact⟨o,k it (by simp) o e,c,d⟩
 item:=by
  intro X M G O L i j s σ H E I hf g hg;subst M G O;obtain⟨D,C,U,B,y,r⟩:=hf it (by simp);have J:i<x.cps.size:=hg;have q:x.cps[i]?=some x.cps[i]:=Array.getElem?_eq_getElem J;have n:∀m,m.IsStrIter it (strIterType x) x t (i+1)->Heap.SameBut it s.heap m->∃u,(some (Value.str ⟨#[x.cps[i]]⟩ s.toks))=some u /\
    wpAny (model X.prog X.w) X.A (letOwnedTupleGo tg (.ref it) u) (λ_ S=>∃v H',Inv X j σ H' S/\bu v u/\(IV x).yld i H v H'/\S.heap.IsStrIter it (strIterType x) x t (i+1)/\∀b∈[it],H' b=none) E {s with heap:=m,toks:=s.toks+1}:=λm st' T=>by
   have Y:Inv X j σ H {s with heap:=m,toks:=s.toks+1}:=I.turned (λb o l e=>(T.2 b l).trans e) D C B y r;obtain⟨o,e,c,d⟩:=id st';refine⟨_,rfl,xS (s:={s with heap:=m,toks:=s.toks+1}) e c d ?_ ⟨.str ⟨#[x.cps[i]]⟩,H,Y,⟨_,rfl⟩,⟨rfl,_,q,rfl⟩,st',λb l=>(hf b l).1⟩⟩;unfold strIterType
   split<;>decide
  cases p:x.cps.all (· < 128) with
  |true=>
   have a:strIterType x="str_ascii_iterator":=by unfold strIterType;rw[p];rfl
   rw[a]at g n ⊢;exact wpAny_pyNext_ascii_item g q n
  |false=>
   have a:strIterType x="str_iterator":=by unfold strIterType;rw[p];rfl
   rw[a]at g n ⊢;exact wpAny_pyNext_wide_item g q n
 done:=by
  intro X M G O L i j s σ H E I hf g hg;subst M G O;obtain⟨D,C,U,B,y,r⟩:=hf it (by simp);have J:x.cps.size<=i:=hg;have q:x.cps[i]?=none:=Array.getElem?_eq_none J;cases p:x.cps.all (· < 128) with
  |true=>
   have a:strIterType x="str_ascii_iterator":=by unfold strIterType;rw[p];rfl
   rw[a]at g;exact wpAny_pyNext_ascii_end (I.ok.hd L) g q λm R=>⟨rfl,I.turned (t':=s.toks) (λb o l e=>R b o l e) D C B y r⟩
  |false=>
   have a:strIterType x="str_iterator":=by unfold strIterType;rw[p];rfl
   rw[a]at g;exact wpAny_pyNext_wide_end (I.ok.hd L) g q λm R=>⟨rfl,I.turned (t':=s.toks) (λb o l e=>R b o l e) D C B y r⟩
 self:=λA i s Q E g h=>by
  cases p:x.cps.all (· < 128) with
  |true=>
   have a:strIterType x="str_ascii_iterator":=by unfold strIterType;rw[p];rfl
   rw[a]at g;exact wpAny_pyIter_striter_ascii g h
  |false=>
   have a:strIterType x="str_iterator":=by unfold strIterType;rw[p];rfl
   rw[a]at g;exact wpAny_pyIter_striter_wide g h
def GY(tl:TE):TI:=λσ H R=>tl σ H λv H1=>∃x,v=.str x/\R (IV x) H1
theorem Hs{tl:TE}(hl:PE X l tl):PI X tg l (GY tl):=by
 intro a s σ H R I h;refine bV (hl a s σ H _ I h) λv c ⟨x,n,g,j,k⟩=>?_;obtain⟨x,rfl,q⟩:=k;obtain⟨t,rfl⟩:=j;refine wpAny_pyIter_strU ?_;refine⟨c.heap.objs.size,[c.heap.objs.size],_,_,n,rfl,g.kept (t':=c.toks) λb o e=>Mz _ e,Ej x t _,⟨_,MF _ rfl,rfl,rfl⟩,λb m=>?_,q⟩;have e:b=c.heap.objs.size:=by simpa using m
 subst e;exact g.fpOk (MW _) (g.hok.fresh (MW _))
def IC(K:Nu)(a:Addr)(n:Nat):It:=
 ⟨λi H=>∃xs x,aW K H a xs/\i<n/\xs[n-1-i]?=some x,λi H x H'=>H'=H/\∀xs,aW K H a xs->xs[n-1-i]?=some x,λi _=>i=n⟩
theorem DQ{K:Nu}(a it:Addr)(n:Nat):rG P w K tg (IC K a n) [it] it (λi h=>h.IsRevIter it a ((n:Int)-1-(i:Int))) where
 mem:=by simp
 obj:=λi h g b l=>by
  have e:b=it:=by simpa using l
  subst e;obtain⟨o,e,c,d⟩:=g;exact⟨o,e,λv z=>by rw[d]at z;cases z⟩
 keep:=λi h q g k=>g.at λo e=>k it (by simp) o e
 item:=by
  intro X y r B S i j s σ H E I hf g hg;subst y r B;obtain⟨xs,x,O,R,M⟩:=hg;obtain⟨its,U,p,hz⟩:=I.list O;obtain⟨u,hu,Y⟩:=U.get M;obtain⟨L,J,f2,G,D,C⟩:=hf it (by simp);have e:(n:Int)-1-(i:Int)=((n-1-i:Nat):Int):=by omega
  have m:=g;rw[e]at m;refine wpAny_pyNext_rev_item m p.isList (x:=u) (by simpa using hu) λq st' T=>?_;have e2:((n-1-i:Nat):Int)-1=(n:Int)-1-((i+1:Nat):Int):=by omega
  rw[e2]at st';have I1:Inv X j σ H {s with heap:=q }:=I.turned (t':=s.toks) (λb o l e=>(T.2 b l).trans e) L J G D C;obtain⟨o,e,c,d⟩:=id st';exact⟨u,rfl,xS (s:={s with heap:=q }) e c d nofun ⟨x,H,I1,Y,⟨rfl,λys Z=>by rw[I.list_inj Z O];exact M⟩,st',λb l=>(hf b l).1⟩⟩
 done:=by
  intro X y r B S i j s σ H E I hf g hg;subst y r B;obtain⟨L,J,f2,G,D,C⟩:=hf it (by simp);have R:i=n:=hg;subst R;have e:(i:Int)-1-(i:Int) = -1:=by omega
  rw[e]at g;exact wpAny_pyNext_rev_end (I.ok.hd S) g λq eb=>⟨rfl,I.turned (t':=s.toks) (λb o l e=>eb b o l e) L J G D C⟩
 self:=λ_ _ _ _ _ g h=>wpAny_pyIter_revIter g h
def He(K:Nu)(ta:TA):TI:=λσ H R=>ta σ H λvs H1=>∃a xs,vs=[.ref a]/\aW K H1 a xs/\R (IC K a xs.length) H1
theorem yd{a:Expr}{ta:TA}{p pos:Pos}(hg:Gl X "reversed")(hm:X.mg "reversed"=none)(ha:PA X [a] ta)(hs:autoParam (starEach [a] X.env=[(false,eval a X.env)]) zz0._auto_1):PI X tg (.Call (.Name "reversed" p) [a] [] pos) (He X.K ta):=by
 intro g s σ H R I h;refine Call_ (fC I hg hm boot_reversed (PyProof.Rows.callWith_type1 (bV (ha pos g s σ H _ I h) λus c ⟨vs,v,m,y,B⟩=>?_) hs rfl));obtain⟨l,j,rfl,D,q⟩:=B;obtain⟨u,rfl,x⟩:=y.one;cases x;obtain⟨n,w,C,hz⟩:=m.list D;have k:=w.length;refine call_reversed_list C.isList ?_;have J:n.toArray.size=j.length:=by rw[MG,k]
 rw[J];have L:Inv X g σ v {c with heap:=c.heap.push (revObj l ((j.length:Int)-1))}:=m.kept (t':=c.toks) λb o e=>Mz _ e;have r:(c.heap.push (revObj l ((j.length:Int)-1))).IsRevIter c.heap.objs.size l ((j.length:Int)-1-((0:Nat):Int)):=⟨_,MF _ rfl,rfl,by simp[revObj]⟩;refine wpAny_pyIter_revIter r ?_;refine⟨c.heap.objs.size,[c.heap.objs.size],_,_,v,rfl,L,DQ l _ j.length,r,λb G=>?_,q⟩;have e:b=c.heap.objs.size:=by simpa using G
 subst e;exact m.fpOk (MW _) (m.hok.fresh (MW _))
def Hg:V->Option Int->Option Int->Hp->VK->Prop:=λx lo hi H Q=>∃z,x=.str z/\z.length<=sizeLine/\Q (.str (Txt.slice z lo hi)) H
theorem Dz:Ii X Hg:=by
 intro b s σ H x v vl vu lo hi sl Q I rx hs pl pu h;obtain⟨z,rfl,c,q⟩:=h;obtain⟨t,rfl⟩:=rx;have a:∀e k,EP X b σ Q (.str (Txt.slice z lo hi) e) {s with toks:=k}:=λe k=>⟨.str _,H,I.tok k,⟨e,rfl⟩,q⟩;refine⟨"str",_,F.slot_str_getitem.lookup,typeIs_str _ _ _,?_⟩;cases pl with
 |none=>
  cases pu with
  |none=>exact wpAny_getItem_str_slice (l:=none) (u:=none) (st:=none) hs rfl (post_val_or_str ⟨M6 (Txt.slice_le z _ _) c,a⟩)
  |int j uj=>exact wpAny_getItem_str_slice (l:=none) (u:=some (j,uj)) (st:=none) hs rfl (post_val_or_str ⟨M6 (Txt.slice_le z _ _) c,a⟩)
 |int i ui=>
  cases pu with
  |none=>exact wpAny_getItem_str_slice (l:=some (i,ui)) (u:=none) (st:=none) hs rfl (post_val_or_str ⟨M6 (Txt.slice_le z _ _) c,a⟩)
  |int j uj=>exact wpAny_getItem_str_slice (l:=some (i,ui)) (u:=some (j,uj)) (st:=none) hs rfl (post_val_or_str ⟨M6 (Txt.slice_le z _ _) c,a⟩)
def JI(sep:Str)(ta:TA):TE:=λσ H Q=>ta σ H λvs H1=>∃x,vs=[.str x]/\x.length<=1000/\sep.length<=1000/\Q (.str (Txt.join sep (x.cps.toList.reverse.map λc=>(⟨#[c]⟩:Str)))) H1
theorem qZ{e:Expr}{ta:TA}{sep:Str}{j:Nat}{ap p1 p2 cpos:Pos}(hc:X.calm=true)(hg:Gl X "reversed")(hm:X.mg "reversed"=none)(ha:PA X [e] ta)
  (hfew:autoParam (((backTo cpos (starEach [.Call (.Name "reversed" p1) [e] [] p2] X.env)).all (λx=>!x.1)&&(backToKw cpos (keywordEach [] X.env)).all (λx=>x.1.isSome)
   && decide ([Expr.Call (.Name "reversed" p1) [e] [] p2].length+([]:List Keyword).length+(if([]:List Keyword).isEmpty then 0 else 1)<30))=true) zz0._auto_1)
  (hline:autoParam ((ap.endLine==cpos.line)=true) zz0._auto_1) (hs:autoParam (starEach [e] X.env=[(false,eval e X.env)]) zz0._auto_1) :
  PE X (.Call (.Attribute (.Constant (.str sep) j p0) "join" ap) [.Call (.Name "reversed" p1) [e] [] p2] [] cpos) (JI sep ta):=by
 intro c s σ H Q I h;refine wpAny_Call_method_late rfl hfew hline rfl (bV (ri (X:=X) c s σ H (λv p=>v=.str sep/\p=H) I ⟨rfl,rfl⟩) λv r ⟨x,p,y,G,M⟩=>?_);obtain⟨rfl,rfl⟩:=M;obtain⟨t0,rfl⟩:=G;refine⟨"str",_,F.plainAttrs_str,F.slot_str_join,F.type_str_join,typeIs_str _ _ _,(λa z=>nomatch z),?_⟩;refine Calls.callWith_builtin rfl (Calls.evalArgs_plain ?_);show wpAny _ _ (spliced ((false,eval (.Call (.Name "reversed" p1) [e] [] p2) X.env)::[])) _ _ r;refine Calls.spliced_cons ?_;refine Call_ (fC y hg hm boot_reversed (PyProof.Rows.callWith_type1 (bV (ha p2 c r σ p _ y h) λus g ⟨vs,n,m,D,J⟩=>?_) hs rfl));obtain⟨x,rfl,L,l,q⟩:=J;obtain⟨u,rfl,C⟩:=D.one;obtain⟨t,rfl⟩:=C;have hsl:sizeLine=16777216:=q0R;refine mX ⋯ (Calls.spliced_nil ?_);have w:Inv X c σ n {g with heap:=g.heap.push (zQ x t ((x.length:Int)-1)),toks:=g.toks+1+1}:=m.kept λb o e=>Mz _ e;have R:=m.fpOk (b:=g.heap.objs.size) (H':=n) (MW _) (m.hok.fresh (MW _));obtain⟨Z,Y,f2,U,T,S⟩:=R;refine Dj (w.ok.hd hc) (I:=g.heap.objs.size) (x:=x) (t:=t) ⟨_,MF _ rfl,rfl,rfl⟩ L l λB t' k keep eg ed eo=>?_;obtain⟨h',g',d',k',o'⟩:=B;cases eg;cases ed;cases eo;exact⟨.str _,n,w.turned (t':=k) (λb o O e=>keep b o O e) Z Y U T S,⟨t',rfl⟩,q⟩
def zO:V->Value
 | .ty n=>.type n
 | .ref a=>.ref a
 |_=>.none
def l8:V->Bool
 | .ty _=>true
 | .ref _=>true
 |_=>false
theorem vD(r:bu c u)(h:l8 c=true):u=zO c:=by
 cases c with
 |ty n=>exact r
 |ref a=>exact r
 |_=>cases h
def GB(K:Nu):List V->Hp->VK->Prop:=λxs H Q=>∃x c t b,xs=[x,c]/\l8 c=true/\m7 K H x t/\PySem.W.kitOne K t (zO c)=some b/\Q (.bl b) H
theorem jv:g_ X (.builtin "isinstance") (GB X.K):=by
 intro pins s σ H xs us Q I r h;obtain⟨x,c,t,b,rfl,k,ty,e,q⟩:=h;obtain⟨u,v,rfl,j,g⟩:=r.two;rw[vD g k];exact B0 I j ty e λa=>⟨.bl b,H,I.tok a,rfl,q⟩
inductive Dt where
 |non | bl (b:Bool) | int (i:Int) | str (x:Str) | lst (ds:List Dt) | tup (ds:List Dt)
mutual
def pB(K:Nu)(H:Hp):Dt->V->Prop
 | .non,v=>v=.non
 | .bl b,v=>v=.bl b
 | .int i,v=>v=.int i
 | .str x,v=>v=.str x
 | .lst ds,v=>∃a xs,v=.ref a/\aW K H a xs/\iF K H ds xs
 | .tup ds,v=>∃a xs,v=.ref a/\aZ K H a xs/\iF K H ds xs
def iF(K:Nu)(H:Hp):List Dt->List V->Prop
 | [],xs=>xs=[]
 |d::ds,xs=>∃x r,xs=x::r/\pB K H d x/\iF K H ds r
end
mutual
def Dt.dep:Dt->Nat
 | .lst ds=>Dt.deps ds+1
 | .tup ds=>Dt.deps ds+1
 |_=>0
def Dt.deps:List Dt->Nat
 | []=>0
 |d::ds=>max (Dt.dep d) (Dt.deps ds)
end
theorem iF.length{K:Nu}:∀{ds:List Dt} {xs:List V},iF K H ds xs->xs.length=ds.length
 | [],_,h=>by unfold iF at h;rw[h];rfl
 |d::ds,xs,h=>by
  unfold iF at h;obtain⟨x,r,rfl,_,h2⟩:=h;simp[iF.length h2]
theorem iF.get{K:Nu}:∀{ds:List Dt} {xs:List V} {j:Nat} {x:V},iF K H ds xs->xs[j]?=some x->∃d,ds[j]?=some d/\pB K H d x
 | [],_,_,_,h,e=>by unfold iF at h;rw[h]at e;simp at e
 |d::ds,xs,j,x,h,e=>by
  unfold iF at h;obtain⟨y,r,rfl,h1,h2⟩:=h;cases j with
  |zero=>simp at e;subst e;exact⟨d,rfl,h1⟩
  |succ j=>
   obtain⟨d',e1,e2⟩:=iF.get (j:=j) h2 (by simpa using e);exact⟨d',by simpa using e1,e2⟩
theorem nj:∀{ds:List Dt} {j:Nat} {d:Dt},ds[j]?=some d->d.dep<=Dt.deps ds
 | [],_,_,e=>by simp at e
 |d'::ds,0,d,e=>by simp at e;subst e;unfold Dt.deps;omega
 |d'::ds,j+1,d,e=>by
  have:=nj (ds:=ds) (j:=j) (by simpa using e);unfold Dt.deps;omega
theorem m4(n:Nat):(List.range n).all (λ_=>true)=true:=by simp
theorem Hf{pins:Nv}{σ:St}(I:Inv X pins σ H s):∀(n:Nat) (d:Dt) (A:NG) {v u:V} {vv uu:Value},d.dep<=n->A.units+n<cLine->pB X.K H d v->pB X.K H d u->bu v vv->bu u uu->SeqAt.EqAt A s vv uu true:=by
 intro n
 induction n with
 |zero=>
  intro d A v u vv uu T hA h1 h2 l k;cases d with
  |non=>unfold pB at h1 h2;subst h1 h2;have:=fU (A:=A) (s:=s) l k rfl rfl;exact this
  |bl b=>unfold pB at h1 h2;subst h1 h2;have:=fU (A:=A) (s:=s) l k rfl rfl;simpa[l9]using this
  |int i=>unfold pB at h1 h2;subst h1 h2;have:=fU (A:=A) (s:=s) l k rfl rfl;simpa[l9]using this
  |str x=>unfold pB at h1 h2;subst h1 h2;have:=fU (A:=A) (s:=s) l k rfl rfl;simpa[l9]using this
  |lst ds=>unfold Dt.dep at T;omega
  |tup ds=>unfold Dt.dep at T;omega
 |succ n ih=>
  intro d A v u vv uu T hA h1 h2 l k;cases d with
  |non=>unfold pB at h1 h2;subst h1 h2;have:=fU (A:=A) (s:=s) l k rfl rfl;exact this
  |bl b=>unfold pB at h1 h2;subst h1 h2;have:=fU (A:=A) (s:=s) l k rfl rfl;simpa[l9]using this
  |int i=>unfold pB at h1 h2;subst h1 h2;have:=fU (A:=A) (s:=s) l k rfl rfl;simpa[l9]using this
  |str x=>unfold pB at h1 h2;subst h1 h2;have:=fU (A:=A) (s:=s) l k rfl rfl;simpa[l9]using this
  |lst ds=>
   unfold pB at h1 h2;obtain⟨a,L,rfl,ha,o⟩:=h1;obtain⟨b,G,rfl,hb,m⟩:=h2;cases l;cases k
   by_cases p:a=b
   ·subst p;exact SeqAt.EqAt.same _
   ·unfold Dt.dep at T
    obtain⟨g,R,pa,_⟩:=I.list ha;obtain⟨c,O,pb,_⟩:=I.list hb;have l1:=R.length;have l2:=O.length;have l3:=o.length;have l4:=m.length
    have a0:g.toArray.size=c.toArray.size:=by simp;omega
    have q:=SeqAt.RcAt.lists (A:=A) (s:=s) (e:=λ_=>true) pa.isList pb.isList a0 ⋯ λj g1 g2=>by
     have D:j<g.length:=by simpa using g1
     have C:j<c.length:=by simpa using g2
     have M:L[j]?=some L[j]:=Mx ⋯;have J:G[j]?=some G[j]:=Mx ⋯;obtain⟨d,e1,B⟩:=o.get M;obtain⟨d',Z,y⟩:=m.get J;rw[e1]at Z;cases Z
     obtain⟨w1,Y,w⟩:=R.get M;obtain⟨w2,U,r⟩:=O.get J;rw[Mx D]at Y;rw[Mx C]at U;cases Y;cases U
     have S:=nj e1;simp only[Nj];exact ih d A.in1 ⋯ (by show A.units+1+n<cLine;omega) B y w r
    rw[m4]at q;exact SeqAt.EqAt.of_refs p q
  |tup ds=>
   unfold pB at h1 h2;obtain⟨a,L,rfl,ha,o⟩:=h1;obtain⟨b,G,rfl,hb,m⟩:=h2;cases l;cases k
   by_cases p:a=b
   ·subst p;exact SeqAt.EqAt.same _
   ·unfold Dt.dep at T
    obtain⟨g,R,pa,_⟩:=I.tuple ha;obtain⟨c,O,pb,_⟩:=I.tuple hb;have l1:=R.length;have l2:=O.length;have l3:=o.length;have l4:=m.length
    have q:=SeqAt.RcAt.tuples (A:=A) (s:=s) (e:=λ_=>true) (show s.heap.IsTuple a g.toArray from pa) (show s.heap.IsTuple b c.toArray from pb) ⋯ λj g1 g2=>by
     have D:j<g.length:=by simpa using g1
     have C:j<c.length:=by simpa using g2
     have M:L[j]?=some L[j]:=Mx ⋯;have J:G[j]?=some G[j]:=Mx ⋯;obtain⟨d,e1,B⟩:=o.get M;obtain⟨d',Z,y⟩:=m.get J;rw[e1]at Z;cases Z
     obtain⟨w1,Y,w⟩:=R.get M;obtain⟨w2,U,r⟩:=O.get J;rw[Mx D]at Y;rw[Mx C]at U;cases Y;cases U
     have S:=nj e1;simp only[Nj];exact ih d A.in1 ⋯ (by show A.units+1+n<cLine;omega) B y w r
    have e0:((List.range (min g.toArray.size c.toArray.size)).all (λ_=>true)&&g.toArray.size==c.toArray.size)=true:=by
     rw[m4,Bool.true_and];simp;omega
    rw[e0]at q;exact SeqAt.EqAt.of_refs p q
def JC(K:Nu)(neg:Bool):R2:=λx y H Q=>
 (∃ds,Dt.deps ds<=40/\((pB K H (.lst ds) x/\pB K H (.lst ds) y)\/(pB K H (.tup ds) x/\pB K H (.tup ds) y))/\Q (.bl (!neg)) H) \/
 (∃a b xs ys,x=.ref a/\y=.ref b/\aW K H a xs/\aW K H b ys/\xs.length≠ys.length/\Q (.bl neg) H)
theorem HS(hu:X.A.units+64<cLine):bc X (compareOp .Eq) (JC X.K false):=by
 intro r s σ H x y v u Q I rx ry h;rcases h with⟨ds,hd,h,q⟩ | ⟨a,b,p,o,rfl,rfl,D,C,hne,q⟩
 ·have G:EP X r σ Q (.bool true) s:=⟨.bl true,H,I,rfl,q⟩
  have item:∀{p o:List V} {g c:Nz},iF X.K H ds p->iF X.K H ds o->bo p g->bo o c->∀j (h1:j<g.toArray.size) (h2:j<c.toArray.size),SeqAt.EqAt X.A.in1 s g.toArray[j] c.toArray[j] true:=fun{p o g c} l k n m j g1 g2=>by
   have S:=n.length;have R:=m.length;have l3:=l.length;have l4:=k.length
   have U:j<g.length:=by simpa using g1
   have T:j<c.length:=by simpa using g2
   have Z:p[j]?=some p[j]:=Mx ⋯;have Y:o[j]?=some o[j]:=Mx ⋯;obtain⟨d,e1,O⟩:=l.get Z;obtain⟨d',e2,M⟩:=k.get Y;rw[e1]at e2;cases e2
   obtain⟨w1,f1,L⟩:=n.get Z;obtain⟨w2,f2,J⟩:=m.get Y;rw[Mx U]at f1;rw[Mx T]at f2;cases f1;cases f2
   have hdep:=nj e1;simp only[Nj];exact Hf I 40 d X.A.in1 ⋯ (by show X.A.units+1+40<cLine;omega) O M L J
  rcases h with⟨h1,h2⟩ | ⟨h1,h2⟩
  ·unfold pB at h1 h2
   obtain⟨a,p,rfl,D,l⟩:=h1;obtain⟨b,o,rfl,C,k⟩:=h2;cases rx;cases ry
   obtain⟨g,n,B,_⟩:=I.list D;obtain⟨c,m,w,_⟩:=I.list C;have S:=n.length;have R:=m.length;have l3:=l.length;have l4:=k.length
   have q:=SeqAt.RcAt.lists (A:=X.A) (s:=s) (e:=λ_=>true) B.isList w.isList (by simp;omega) ⋯ (item l k n m);rw[m4]at q;exact q _ _ _ _ G
  ·unfold pB at h1 h2
   obtain⟨a,p,rfl,D,l⟩:=h1;obtain⟨b,o,rfl,C,k⟩:=h2;cases rx;cases ry
   obtain⟨g,n,B,_⟩:=I.tuple D;obtain⟨c,m,w,_⟩:=I.tuple C;have S:=n.length;have R:=m.length;have l3:=l.length;have l4:=k.length
   have q:=SeqAt.RcAt.tuples (A:=X.A) (s:=s) (e:=λ_=>true) (show s.heap.IsTuple a g.toArray from B) (show s.heap.IsTuple b c.toArray from w) ⋯ (item l k n m);have e0:((List.range (min g.toArray.size c.toArray.size)).all (λ_=>true)&&g.toArray.size==c.toArray.size)=true:=by
    rw[m4,Bool.true_and];simp;omega
   rw[e0]at q;exact q _ _ _ _ G
 ·cases rx;cases ry
  obtain⟨g,n,B,_⟩:=I.list D;obtain⟨c,m,w,_⟩:=I.list C;have S:=n.length;have R:=m.length
  exact SeqAt.RcAt.lists_lengths B.isList w.isList (by simp;omega) ⋯ _ _ _ _ ⟨.bl false,H,I,rfl,q⟩
end
end L2
namespace bN
abbrev J':=List Nat
abbrev bN:=List J'
def fE(p:bN)(r c:Nat):Prop:=p.length=r/\∀x∈p,x.length=c
def mirror(p:bN):bN:=p.map List.reverse
def col(p:bN)(i:Nat):J':=p.reverse.map λx=>x.getD i 0
def gj(p:bN):bN:=(List.range (p.headD []).length).map (col p)
def bD:Nat->bN->bN
 |0,p=>p
 |n+1,p=>bD n (gj p)
def turned(p:bN)(t:Nat):bN:=bD (t%4) (if 4<=t then mirror p else p)
theorem Dd{i:Nat}(h:fE p r c)(hi:i<r):(p.getD i []).length=c:=by
 have a:i<p.length:=by rw[h.1];exact hi
 rw[q0A,Mx a];exact h.2 _ (MH a)
theorem bT(h:fE p r c)(hr:0<r):(p.headD []).length=c:=by
 have:=Dd h hr;cases p with
 |nil=>have:=h.1;simp at this;omega
 |cons x p=>simpa using this
theorem hJ(h:fE p r c):fE (mirror p) r c:=by
 refine⟨by simp[mirror,h.1],λx b=>?_⟩;obtain⟨y,a,rfl⟩:=Ng.mp b;rw[MQ];exact h.2 y a
theorem vN(h:fE p r c)(hr:0<r):fE (gj p) c r:=by
 refine⟨by unfold gj;rw[MA,q0G,bT h hr],λx a=>?_⟩;obtain⟨i,_,rfl⟩:=Ng.mp a;simp[col,h.1]
theorem dl:∀(n:Nat) {p:bN} {r c:Nat},fE p r c->0<r->0<c->fE (bD n p) (if n%2=0 then r else c) (if n%2=0 then c else r)
 |0,_,_,_,h,_,_=>h
 |n+1,p,r,c,h,hr,hc=>by
  have:=dl n (vN h hr) hc hr;show fE (bD n (gj p)) _ _
  by_cases e:n%2=0
  ·rw[q07 e,q07 e]at this
   rw[q06 ⋯,q06 ⋯];exact this
  ·rw[q06 e,q06 e]at this
   rw[q07 ⋯,q07 ⋯];exact this
theorem xD(h:fE p r c)(hr:0<r)(hc:0<c)(t:Nat):fE (turned p t) (if t%2=0 then r else c) (if t%2=0 then c else r):=by
 unfold turned;have e:t%4%2=t%2:=by omega
 rw[<- e]
 split
 ·exact dl _ (hJ h) hr hc
 ·exact dl _ h hr hc
theorem ng(a b:Nat)(p:bN):bD a (bD b p)=bD (b+a) p:=by
 induction b generalizing p with
 |zero=>rw[Nat.zero_add];rfl
 |succ b ih=>show bD a (bD b (gj p))=_;rw[ih,Nat.add_right_comm];rfl
def after(t u:Nat):Nat:=if u<4 then t/4*4+(t+u)%4 else(1-t/4)*4+(u+8-t)%4
def wj(t:Nat):Nat:=if t<4 then(4-t)%4 else t
end bN
namespace QL
open PySem L2 bN
def tx(r:Nw):Str:=⟨r.toArray⟩
def aH(p:bN):List V:=p.map λr=>V.str (tx r)
theorem aA(r:Nw):(tx r).length=r.length:=by show r.toArray.size=r.length;simp
theorem g9(r:Nw):(tx r).cps.toList=r:=by show r.toArray.toList=r;simp
theorem ar(p:bN):(aH p).length=p.length:=by unfold aH;simp
theorem bp{p:bN}{i:Nat}(h:i<p.length):(aH p)[i]?=some (V.str (tx p[i])):=by unfold aH;rw[MC,Mx h];rfl
theorem fg(p:bN)(r:Nw):aH (p++[r])=aH p++[V.str (tx r)]:=by unfold aH;simp
theorem Fj:∀(ys:List (List Nat)),Txt.join (Str.ofString "") (ys.map tx)=tx ys.flatten
 | []=>rfl
 |y::ys=>by
  have key:∀(zs:List (List Nat)) (a:Nw),(zs.map tx).foldl (λacc (p:Str)=>acc++(Str.ofString "").cps++p.cps) a.toArray=(a++zs.flatten).toArray:=by
   intro zs
   induction zs with
   |nil=>intro a;simp
   |cons z zs ih=>
    intro a;rw[M5,List.foldl_cons];have e:a.toArray++(Str.ofString "").cps++(tx z).cps=(a++z).toArray:=by
     have b:(Str.ofString "").cps=#[]:=rfl;rw[b];show a.toArray ++ #[]++z.toArray=_;simp
    rw[e,ih];simp
  show(⟨(ys.map tx).foldl (λacc (p:Str)=>acc++(Str.ofString "").cps++p.cps) (tx y).cps⟩:Str)=_;show(⟨(ys.map tx).foldl (λacc (p:Str)=>acc++(Str.ofString "").cps++p.cps) y.toArray⟩:Str)=_;rw[key]
  rfl
theorem gy(r:Nw):Txt.join (Str.ofString "") (r.map λc=>(⟨#[c]⟩:Str))=tx r:=by
 have e:(r.map λc=>(⟨#[c]⟩:Str))=(r.map λc=>[c]).map tx:=by rw[MN];rfl
 rw[e,Fj]
 congr 1
 clear e
 induction r with
 |nil=>rfl
 |cons c r ih=>simp[ih]
def tQ(p:bN):Prop:=p.length<=64/\∀r∈p,r.length<=64
theorem tQ.of(h:fE p r c)(hr:r<=64)(hc:c<=64):tQ p:=⟨by rw[h.1];exact hr,λx hx=>by rw[h.2 x hx];exact hc⟩
theorem bq{n:Nat}(h:n<=1000000):n<sizeLine:=by have:=q0R;omega
theorem ak{n:Nat}(h:n<=1000000):n<=sizeLine:=by have:=q0R;omega
theorem ae{H:Hp}(h:H l=none):az H (ay H l o):=λb u e=>by rw[ao (aI e h)];exact e
theorem gC(s:az H0 H)(h:H0 l=none):az H0 (ay H l o):=λb u e=>by rw[ao (aI e h)];exact s b u e
theorem fR{i:Nat}(h:fE p r c)(hi:i<r):∃hl:i<p.length,(p[i]).length=c:=⟨by rw[h.1];exact hi,h.2 _ (MH _)⟩
def c8(H:Hp)(p:bN)(Q:VK):Prop:=∀(l:Addr) (H':Hp),H l=none->H' l=some (.lst (aH p))->az H H'->Q (.ref l) H'
theorem zx{α:Type}{xs:List α}{i:Int}(h0:0<=i)(h1:i<xs.length):∃v,v∈xs/\gZ xs i=some v:=by
 have hb:i.toNat<xs.length:=by omega
 obtain⟨j,a⟩:∃j:Nat,i=(j:Int):=⟨i.toNat,⋯⟩;subst a;exact⟨xs[j]'⋯,MH _,aU (Mx ⋯)⟩
end QL
namespace L2
open PySem PySem.Spec PyProof.Rows
section
variable {X:Cx}
theorem bi:g_ X (.builtin "len") (λxs H Q=>∃p ys,xs=[.ref p]/\aW X.K H p ys/\Q (.int ys.length) H):=λpins s σ H xs us Q I r ⟨p,ys,e,h,q⟩=>mZ pins s σ H xs us Q I r ⟨p,ys,e,.inl h,q⟩
theorem gB:g_ X (.builtin "len") (λxs H Q=>∃p ys,xs=[.ref p]/\aZ X.K H p ys/\Q (.int ys.length) H):=λpins s σ H xs us Q I r ⟨p,ys,e,h,q⟩=>mZ pins s σ H xs us Q I r ⟨p,ys,e,.inr h,q⟩
theorem xY{K:Nu}{g:TG}{ti:TT}{te:TE}{σ:St}{H:Hp}{Q:List V->Hp->Prop}{xs:List V}(Pv:Nat->List V->St->Hp->Prop)(h0:Pv 0 [] σ H)(hz:∀i acc σ H,Pv i acc σ H->acc.length<sizeLine)(hi:∀i acc σ H,Pv i acc σ H->i<=xs.length)
  (hl:∀i acc σ H,Pv i acc σ H->aW K H a xs)
  (hs:∀i x acc σ H,xs.reverse[i]?=some x->Pv i acc σ H->g x σ H λσ2 H3=>ti σ2 H3 λb H4=>if b=true then te σ2 H4 λv H5=>Pv (i+1) (acc++[v]) σ2 H5 else Pv (i+1) acc σ2 H4)
  (he:∀acc σ H,Pv xs.length acc σ H->Q acc H):jy (IC K a xs.length) g ti te σ H Q:=by
 have c:∀{i:Nat} {x:V},i<xs.length->xs[xs.length-1-i]?=some x->xs.reverse[i]?=some x:=fun{i x} hi e=>by rw[List.getElem?_reverse hi];exact e
 exact kN (J:=IC K a xs.length) (g:=g) (ti:=ti) (te:=te) (Q:=Q) (n:=xs.length) Pv h0 hz hi (λacc σ H w=>rfl)
  (λi acc σ H hlt w=>⟨xs,xs[xs.length-1-i]'⋯,hl _ _ _ _ w,hlt,Mx ⋯⟩) (λi x acc σ H H2 hlt w y=>by obtain⟨rfl,j⟩:=y;exact hs i x acc σ H2 (c hlt (j xs (hl _ _ _ _ w))) w) he
theorem FA(i j:Int):(FE (.int i) (.int j)=true)=True:=eq_true rfl
theorem gO{ta:TE}(ha:PE X a ta)(he:∀whole,isTrue a X.env whole=(do let v <- whole;standAt a.pos;holding [v] (truthy v))):PT X a (w4 ta):=by
 intro b s σ H Q I h;rw[he];refine q04 (bV (ha b s σ H _ I h) λv s1 ⟨x,j,g,c,k,e,q⟩=>?_);subst e;cases c;exact q04 (wpAny_standAt (q0T (wpAny_truthy_bool ⟨j,g,q⟩)))
def vW(J:It)(g:TG)(tb:TS)(D:iJ)(σ:St)(H:Hp):Prop:=∃W:Nat->Nat->St->Hp->Prop,(∃m,W 0 m σ H)/\∀i m σ H,W i m σ H ->
 (J.stop i H/\D.nx σ H)\/(J.go i H/\∃N:St->Hp->Prop,(∀σ' H',N σ' H'->∃m',m'<m/\W (i+1) m' σ' H')/\∀x H',J.yld i H x H'->g x σ H' λσ2 H2=>tb {D with nx:=N,ct:=N,bk:=D.nx} σ2 H2)
def Ea(wi:TI)(g:TG)(tb:TS):TS:=λD σ H=>wi σ H λJ H1=>vW J g tb D σ H1
theorem bP{tg iter:Expr}{body:List Stmt}{wi:TI}{pos:Pos}(hp:PassesOwn (model X.prog X.w) X.A X.env X.xe)(hc:X.calm=true)(hi:PI X tg iter wi)(hg:PG X tg g)(hb:wu X body tb)
  (hs:autoParam (∀x,foldedSetIterable iter X.env x=pure x) zz4._auto_1):PS X (.For tg iter body [] pos) (Ea wi g tb):=Ho hp hc hi hg hb hs
section
variable {K:Nu}{g:TG}{tb:TS}{D:iJ}{σ:St}{H:Hp}
theorem dO{xs:List V}(Pv:Nat->St->Hp->Prop)(h0:Pv 0 σ H)(hl:∀i σ H,i<=xs.length->Pv i σ H->aW K H a xs)
  (hs:∀i x σ H,xs[i]?=some x->Pv i σ H->g x σ H λσ2 H2=>tb {D with nx:=Pv (i+1),ct:=Pv (i+1),bk:=D.nx} σ2 H2) (hd:∀σ H,Pv xs.length σ H->D.nx σ H):vW (Fr K a) g tb D σ H:=D4 Pv h0 hl hs hd
theorem w9{xs:List V}(Pv:Nat->St->Hp->Prop)(h0:Pv 0 σ H)(hl:∀i σ H,i<=xs.length->Pv i σ H->aZ K H a xs)
  (hs:∀i x σ H,xs[i]?=some x->Pv i σ H->g x σ H λσ2 H2=>tb {D with nx:=Pv (i+1),ct:=Pv (i+1),bk:=D.nx} σ2 H2) (hd:∀σ H,Pv xs.length σ H->D.nx σ H):vW (GG K a) g tb D σ H:=GD Pv h0 hl hs hd
theorem gF{lo:Int}{n:Nat}(Pv:Nat->St->Hp->Prop)(h0:Pv 0 σ H)
  (hs:∀i σ H,i<n->Pv i σ H->g (.int (lo+i)) σ H λσ2 H2=>tb {D with nx:=Pv (i+1),ct:=Pv (i+1),bk:=D.nx} σ2 H2) (hd:∀σ H,Pv n σ H->D.nx σ H):vW (CY lo n) g tb D σ H:=A1 Pv h0 hs hd
end
end
theorem aV:bootBuiltins "len"=some (.builtin "len"):=by decide +kernel
theorem jm:bootBuiltins "list"=some (.type "list"):=by decide +kernel
theorem Ed:bootBuiltins "tuple"=some (.type "tuple"):=by decide +kernel
theorem bO:bootBuiltins "isinstance"=some (.builtin "isinstance"):=by decide +kernel
theorem HP:bootBuiltins "all"=some (.builtin "all"):=by decide +kernel
end L2
namespace L2
open PySem PySem.Spec PyProof.Rows
section
variable {X:Cx}{a b c d:Expr}{ta tb tc td:TE}{pos:Pos}
def Hk(K:Nu):List V->Hp->VK->Prop:=λxs H Q=>∃(p:Addr) (bs:List Bool),xs=[.ref p]/\aW K H p (bs.map V.bl)/\Q (.bl (bs.all id)) H
theorem Ar:∀{bs:List Bool} {us:Nz} {i:Nat} {u:Value},bo (bs.map V.bl) us->us[i]?=some u->∃k,bs[i]?=some k/\u=.bool k
 | [],_,_,_,.nil,e=>by simp at e
 |k::bs,_,0,u,.cons r _,e=>by simp at e;subst e;exact⟨k,rfl,r⟩
 |k::bs,_,i+1,u,.cons _ t,e=>by
  obtain⟨k',h1,h2⟩:=Ar (i:=i) t (by simpa using e);exact⟨k',by simpa using h1,h2⟩
theorem BS(bs:List Bool):((List.range bs.length).all λi=>(bs[i]?).getD true)=bs.all id:=by
 rw[Bool.eq_iff_iff,Nh,Nh]
 constructor
 ·intro h x c
  obtain⟨i,b,e⟩:=List.getElem_of_mem c;have q:=h i (List.mem_range.mpr b);rw[Mx b,q0I,e]at q;exact q
 ·intro h i b
  have a:=List.mem_range.mp b;rw[Mx a,q0I];exact h _ (MH a)
theorem Ek(hc:X.calm=true):g_ X (.builtin "all") (Hk X.K):=by
 intro pins s σ H xs us Q I r h;obtain⟨p,bs,rfl,y,q⟩:=h;obtain⟨u,rfl,x⟩:=r.one;cases x;obtain⟨a,n,g,_⟩:=I.list y;have j:p<s.heap.objs.size:=by obtain⟨_,e,_⟩:=g.isList;exact MZ e
 have c:a.length=bs.length:=by rw[<- n.length,MA]
 refine call_all_walk (wpAny_pyIter_list g.isList ?_);refine⟨s.heap.objs.size,[s.heap.objs.size,p],[s.heap.objs.size],a.toArray.size,_,_,λi=>(bs[i]?).getD true,rfl,Walks.list (A:=X.A.in1) (I.ok.hd hc) _ p (MS j) a.toArray,
  ⟨⟨_,MF _ rfl,rfl,rfl⟩,g.isList.push _⟩,λi v s' Q' E' D l=>?_,λh' w C=>?_⟩
 ·obtain⟨k,e,rfl⟩:=Ar (i:=i) n (by simpa using D)
  dsimp only at l;rw[e,q0I]at l;exact wpAny_truthy_bool l
 ·have e:((List.range a.toArray.size).all λi=>(bs[i]?).getD true)=bs.all id:=by rw[MG,c];exact BS bs
  rw[e];exact⟨.bl _,H,I.kept (t':=w) λb o m=>C b o (λB=>by rw[MB.mp B]at m;exact M7 _ (MZ m)) (Mz _ m),rfl,q⟩
end
section
variable {K:Nu}{g:TG}{ti:TT}{te:TE}{σ:St}{H:Hp}{Q:List V->Hp->Prop}
theorem DR{xs:List V}(Pv:Nat->List V->St->Hp->Prop)(h0:Pv 0 [] σ H)(hz:∀i acc σ H,Pv i acc σ H->acc.length<sizeLine)(hi:∀i acc σ H,Pv i acc σ H->i<=xs.length)
  (hl:∀i acc σ H,Pv i acc σ H->aZ K H a xs)
  (hs:∀i x acc σ H,xs[i]?=some x->Pv i acc σ H->g x σ H λσ2 H3=>ti σ2 H3 λb H4=>if b=true then te σ2 H4 λv H5=>Pv (i+1) (acc++[v]) σ2 H5 else Pv (i+1) acc σ2 H4)
  (he:∀acc σ H,Pv xs.length acc σ H->Q acc H):jy (GG K a) g ti te σ H Q:=by
 exact kN (J:=GG K a) (g:=g) (ti:=ti) (te:=te) (Q:=Q) (n:=xs.length) Pv h0 hz hi (λacc σ H w=>⟨xs,hl _ _ _ _ w,MW _⟩)
  (λi acc σ H hlt w=>⟨xs,xs[i],hl _ _ _ _ w,Mx hlt⟩) (λi x acc σ H H2 hlt w y=>by obtain⟨rfl,c⟩:=y;exact hs i x acc σ H2 (c xs (hl _ _ _ _ w)) w) he
end
end L2
namespace QL
open PySem L2 bN PySem.Builtin PySem.Builtin.Str
theorem zT(row:Nw)(i k:Nat)(h:i+k<=row.length):((List.range k).map λm=>i+m).filterMap (λj=>row[j]?)=(row.drop i).take k:=by
 rw[List.filterMap_map]
 induction k with
 |zero=>simp
 |succ k ih=>
  rw[q0J,List.filterMap_append,ih ⋯,q0D,List.getElem?_drop];have e:i+k<row.length:=by omega
  simp[Mx e]
def Er(n:Nat)(d:Int):Option Int->Int
 |none=>d
 |some i=>max 0 (min (if i<0 then i+(n:Int) else i) (n:Int))
theorem xx(n d:Nat)(v:Option Int):Er n (d:Int) v=((HT.sIx n d v:Nat):Int):=by
 cases v with
 |none=>rfl
 |some v=>
  show max 0 (min (if v<0 then v+(n:Int) else v) (n:Int))=(((if v<0 then(v+(n:Int)).toNat else min v.toNat n:Nat)):Int)
  by_cases a:v<0
  ·rw[q07 a,q07 a,Int.max_def,Int.min_def]
   split<;>split at * <;> omega
  ·rw[q06 a,q06 a,Int.max_def,Int.min_def]
   split<;>split at * <;> omega
theorem x_(lo hi:Option Int)(n:Nat):strSliceIndices lo hi 1 n=sliceRange (Er n ((0:Nat):Int) lo) (Er n (n:Int) hi) 1:=by cases lo<;>cases hi<;>rfl
theorem tJ(row:Nw)(lo hi:Option Int):Txt.slice (tx row) lo hi=tx ((row.drop (HT.sIx row.length 0 lo)).take (HT.sIx row.length row.length hi-HT.sIx row.length 0 lo)):=by
 have hl:=HT.sIx_le row.length 0 (MX _) lo;have hh:=HT.sIx_le row.length row.length (MW _) hi;have key:strSliceIndices lo hi 1 (tx row).length=(List.range (HT.sIx row.length row.length hi-HT.sIx row.length 0 lo)).map λm=>HT.sIx row.length 0 lo+m:=by
  rw[aA,x_,xx,xx];generalize HT.sIx row.length 0 lo=a;generalize HT.sIx row.length row.length hi=b;unfold sliceRange;have en:(if(1:Int)>0 then(if(a:Int)<(b:Int) then((b:Int)-(a:Int)+1-1)/1 else 0) else(if(a:Int)>(b:Int) then((a:Int)-(b:Int)-1-1)/(-1) else 0)).toNat=b-a:=by
   rw[q07 nofun]
   split<;>omega
  show(List.range (if(1:Int)>0 then(if(a:Int)<(b:Int) then((b:Int)-(a:Int)+1-1)/1 else 0) else(if(a:Int)>(b:Int) then((a:Int)-(b:Int)-1-1)/(-1) else 0)).toNat).map (fun(k:Nat)=>((a:Int)+1*(k:Int)).toNat)=_;rw[en];refine q0H λm _=>?_;omega
 unfold Txt.slice;rw[key];generalize HT.sIx row.length 0 lo=a at hl ⊢;generalize HT.sIx row.length row.length hi=b at hh ⊢
 by_cases hab:a+(b-a)<=row.length
 ·have e:(((List.range (b-a)).map λm=>a+m).filterMap λj=>(tx row).cps[j]?)=(row.drop a).take (b-a):=by
   rw[<- zT row a (b-a) hab]
   congr 1
   funext j
   show row.toArray[j]?=row[j]?;simp
  rw[e]
  split
  ·rename_i hw
   simp at hw;rw[aA]at hw;have ha0:a=0:=by omega
   have hb0:b-a=row.length:=by omega
   rw[ha0,Nr];rw[ha0]at hb0;rw[hb0,Na]
  ·rfl
 ·exact q0N hab ⋯
end QL
namespace L2
open PySem PySem.Spec PyProof.Rows
section
variable {X:Cx}{K:Nu}{tg:Expr}
theorem AH(hK:X.K=K):Hd X (B2 K):=hK▸D6
end
end L2
namespace PySem
open Sem (wp)
def TrD(cp:Value->Prop)(h base:Heap)(e:Addr)(cls:Value)(od:NJ)(fl:Value):Prop:=
 ∃oe vs T oT ts,h.get? e=some oe/\oe.cls=cls/\oe.dict=od/\oe.data=.fields vs/\vs[1]?=some (.ref T)/\base.get? T=none/\T≠e/\h.get? T=some oT/\oT.data=.fields ts/\ts[3]?=some fl/\∃cx,vs[2]?=some cx/\cp cx
structure jg(cp:Value->Prop)(base:Heap)(l:List Env)(e:Addr)(cls:Value)(od:NJ)(fl:Value)(h:Heap):Prop where
 st:base.StaysIn h
 new:base.get? e=none
 ff:h.FunFrames base l
 tr:TrD cp h base e cls od fl
theorem jg.there{cp:Value->Prop}{base:Heap}{cls fl:Value}{od:NJ}(x:jg cp base l e cls od fl h):∃oe vs,h.get? e=some oe/\oe.cls=cls/\oe.dict=od/\oe.data=.fields vs:=by
 obtain⟨oe,vs,_,_,_,a,b,c,d,_⟩:=x.tr;exact⟨oe,vs,a,b,c,d⟩
theorem so(o:Obj)(f:Array Value->Array Value):(Obj.mapFields f o).dict=o.dict:=by unfold Obj.mapFields;split<;>rfl
section
variable {cp:Value->Prop}{M:Model}{A:NG}{E:Nt}{s:Ny}{base:Heap}{env:Env}{outer:List Env}{L e:Addr}{Q:Unit->Shared->Prop}
theorem kH{cls fl:Value}{od:NJ}(x:jg cp base l e cls od fl s.heap)(h:∀h',jg cp base l e cls od .none h'->s.heap.UpToSlots h'->Q () {s with heap:=h' }):wpAny M A (setFlight (.ref e) none) Q E s:=by
 obtain⟨B,vs,T,oT,v,w,D,C,y,h1,n,p,u,j,G,r⟩:=x.tr;have m:3<v.size:=(Array.getElem?_eq_some_iff.mp G).1;have g:∀b,b≠T->(s.heap.update T (Obj.mapFields (·.setIfInBounds 3 Value.none))).get? b=s.heap.get? b:=λb a=>ME _ _ (Ne.symm a);have k:∀b o,s.heap.get? b=some o->(∀vs,o.data≠.fields vs)->b≠T:=λb o a c q=>by rw[q,u]at a;injection a with a;subst a;exact c v j
 unfold setFlight;refine q04 (wpAny_field w y h1 ?_);rw[q07 (show(Value.ref T != Value.none)=true from by simp)];refine wpAny_setField u j m (h _ ⟨λb o a=>(g b λq=>by rw[q,n]at a;cases a).trans (x.st b o a),x.new,x.ff.of_keeps λb o a c=>⟨o,(g b (k b o a c)).trans a,rfl⟩,?_⟩ λb o a c=>⟨o.slots,(g b (k b o a c)).trans a⟩);exact⟨B,vs,T,_,_,(g e (Ne.symm p)).trans w,D,C,y,h1,n,p,MJ _ u (Obj.isFreed_of_fields (Obj.data_mapFields j _)),Obj.data_mapFields j _,by simp[m],r⟩
theorem E_{oe:Obj}{head:Value}{hadNext:Bool}(hfr:A.frames=some (env::outer))(hl:s.heap.FunFrames base (env::outer))(hf:env.frame=some L)
  (he:s.heap.get? e=some oe) (hkb:base.StaysIn s.heap) (hen:base.get? e=none) (hd:oe.data=.fields vs) (hsz:1<vs.size) (hcx:∃cx,vs[2]?=some cx/\cp cx)
  (h:∀h',jg cp base (env::outer) e oe.cls oe.dict (rawInt L) h'->s.heap.UpToSlots h'->Q () {s with heap:=h' }) :
  wpAny M A (do let a <- frameOf env;let pl <- entryPlaceOf L hadNext;let b <- EntryCells.newEntry head a .none (rawInt L) .none pl;setField (.ref e) 1 b) Q E s:=by
 have u:e∉(env::outer).filterMap (·.frame):=λC=>by
  obtain⟨_,o,y,g⟩:=hl.mem C;rw[he]at y;injection y with y;subst y;exact g vs hd
 refine q04 (wpAny_frameOf_fun hfr hl hf λj k=>?_);refine q04 (wpAny_entryPlaceOf λpl n=>?_);unfold EntryCells.newEntry newFields;refine q04 (wpAny_newObj_type ?_ (n.sizeOk5 _ _ _ _ _));have r:j.get? e=some oe:=(k.2.1 e u).trans he;have m:base.StaysIn j:=λb o c=>(k.2.1 b λC=>by rw[(hl.mem C).1]at c;cases c).trans (hkb b o c);generalize x:({cls:=.type "traceback",dict:=none,data:=.fields ([head,.ref L,.none,rawInt L,.none]++(if pl.isEmpty then List.replicate 6 Value.none else pl)).toArray}:Obj)=To;have G:To.data=.fields ([head,.ref L,.none,rawInt L,.none]++(if pl.isEmpty then List.replicate 6 Value.none else pl)).toArray:=by rw[<- x]
 have p:=Mz (h:=j) To r;have w:j.objs.size≠e:=Nat.ne_of_gt (MZ r);have keep:∀b o,b≠e->j.get? b=some o->((j.push To).update e (Obj.mapFields (·.setIfInBounds 1 (Value.ref j.objs.size)))).get? b=some o:=λb o D c=>by
  rw[ME _ _ (Ne.symm D)];exact Mz _ c
 have l:∀b o,s.heap.get? b=some o->(∀vs,o.data≠.fields vs)->b≠e:=λb o c g q=>by
  rw[q,he]at c
  injection c with c
  subst c;exact g vs hd
 refine wpAny_setField p hd hsz (h _ ?_ ?_)
 ·have v:=Obj.data_mapFields hd (·.setIfInBounds 1 (Value.ref j.objs.size))
  refine⟨λb o c=>keep b o (λq=>by rw[q,hen]at c;cases c) (m b o c),hen,hl.of_keeps λb o c g=>?_,?_⟩
  ·obtain⟨I,B⟩:=k.2.2 b o c
   exact⟨_,keep b _ (l b o c g) B,rfl⟩
  ·refine⟨_,_,j.objs.size,To,_,MJ _ p (Obj.isFreed_of_fields v),Obj.cls_mapFields _ _,so _ _,v,by simp[hsz],m.fresh,w,?_,G,?_,?_⟩
   ·rw[ME _ _ (Ne.symm w)]
    refine MF _ ?_;rw[<- x];rfl
   ·first | (simp;done) | (rcases n with rfl | ⟨_,_,_,_,_,_,_,rfl⟩<;>simp)
   ·obtain⟨cx,h2,J⟩:=hcx
    exact⟨cx,by rw[Array.getElem?_setIfInBounds_ne nofun];exact h2,J⟩
 ·intro b o c g
  obtain⟨I,B⟩:=k.2.2 b o c;exact⟨I,keep b _ (l b o c g) B⟩
theorem DX{cls:Value}{od:NJ}(hfr:A.frames=some (env::outer))(hf:env.frame=some L)(x:jg cp base (env::outer) e cls od .none s.heap)
  (h:∀h',jg cp base (env::outer) e cls od (rawInt L) h'->s.heap.UpToSlots h'->Q () {s with heap:=h' }):wpAny M A (noteFrame (.ref e) env) Q E s:=by
 obtain⟨oe,vs,T,oT,w,r,C,B,u,h1,l,n,p,k,v,m⟩:=x.tr;subst C B;unfold noteFrame;simp only[hf];refine q04 (wpAny_field r u h1 ?_);rw[q07 (show(Value.ref T != Value.none)=true from by simp)];refine q04 (wpAny_field p k v ?_);rw[q06 (show ¬ ((Value.none==rawInt L)=true) from by simp[rawInt])];refine q04 (wpAny_setField p k (Array.getElem?_eq_some_iff.mp v).1 ?_);have g:∀b,b≠T->(s.heap.update T (Obj.mapFields (·.setIfInBounds 3 Value.none))).get? b=s.heap.get? b:=λb a=>ME _ _ (Ne.symm a);have j:∀b o,s.heap.get? b=some o->(∀vs,o.data≠.fields vs)->b≠T:=λb o a c q=>by rw[q,p]at a;injection a with a;subst a;exact c w k
 refine E_ hfr (x.ff.of_keeps λb o a c=>⟨o,(g b (j b o a c)).trans a,rfl⟩) hf ((g e (Ne.symm n)).trans r) (λb o a=>(g b λq=>by rw[q,l]at a;cases a).trans (x.st b o a)) x.new u (Array.getElem?_eq_some_iff.mp h1).1 m λh' y up=>h h' y λb o a c=>up b o ((g b (j b o a c)).trans a) c
theorem HI{oe:Obj}(hfr:A.frames=some (env::outer))(hl:s.heap.FunFrames base (env::outer))(hf:env.frame=some L)(he:s.heap.get? e=some oe)(hkb:base.StaysIn s.heap)(hen:base.get? e=none)(hd:oe.data=.fields vs)(h1:vs[1]?=some .none)(hcx:∃cx,vs[2]?=some cx/\cp cx)
  (h:∀h',jg cp base (env::outer) e oe.cls oe.dict (rawInt L) h'->s.heap.UpToSlots h'->Q () {s with heap:=h' }):wpAny M A (noteFrame (.ref e) env) Q E s:=by
 unfold noteFrame;simp only[hf];refine q04 (wpAny_field he hd h1 ?_);rw[q06 nofun];exact E_ hfr hl hf he hkb hen hd (Array.getElem?_eq_some_iff.mp h1).1 hcx h
theorem jg.drop{cls fl:Value}{od:NJ}(x:jg cp base (env::outer) e cls od fl h):jg cp base outer e cls od fl h:=⟨x.st,x.new,x.ff.2.2,x.tr⟩
theorem HJ{cls:Value}{od:NJ}(hfr:A.frames=some (env::outer))(hf:env.frame=some L)(x:jg cp base (env::outer) e cls od .none s.heap)
  (h:∀h',jg cp base outer e cls od .none h'->s.heap.UpToSlots h'->Q () {s with heap:=h' }):wpAny M A (leaving env (.ref e)) Q E s:=by
 unfold leaving;exact q04 (DX hfr hf x λh1 b g=>kH b λh2 a c=>h h2 a.drop (g.trans c))
theorem Al{oe:Obj}(hfr:A.frames=some (env::outer))(hl:s.heap.FunFrames base (env::outer))(hf:env.frame=some L)(he:s.heap.get? e=some oe)(hkb:base.StaysIn s.heap)(hen:base.get? e=none)(hd:oe.data=.fields vs)(h1:vs[1]?=some .none)(hcx:∃cx,vs[2]?=some cx/\cp cx)
  (h:∀h',jg cp base outer e oe.cls oe.dict .none h'->s.heap.UpToSlots h'->Q () {s with heap:=h' }):wpAny M A (leaving env (.ref e)) Q E s:=by
 unfold leaving;exact q04 (HI hfr hl hf he hkb hen hd h1 hcx λh1 b g=>kH b λh2 a c=>h h2 a.drop (g.trans c))
end
end PySem
namespace L2
open PySem PySem.Spec PyProof.Rows
structure Fly0(P:NE)(w:NH)(outer:List Env)(H:Hp)(s:Ny)(B:Heap)(H':Hp)(s':Ny):Prop where
 st:B.StaysIn s'.heap
 ff:s'.heap.FunFrames B outer
 un:Un (lS outer) [] H H' s.heap s'.heap
 hok:kZ P w H' s'.heap
 cov:∀b o,H' b=some o->∃ob,B.get? b=some ob
 old:∀b o,s.heap.get? b=some o->b∉lS outer->∃o',B.get? b=some o'
 os:s'.os=s.os
 bare:AllBare s'.gens
structure Iy(cp:Value->Prop)(P:NE)(w:NH)(outer:List Env)(H:Hp)(s:Ny)(B:Heap)(H':Hp)(s':Ny)(ea:Addr)(cls:Value)(od:NJ):Prop extends Fly0 P w outer H s B H' s' where
 fl:jg cp B outer ea cls od .none s'.heap
def GO(cp:Value->Prop)(P:NE)(w:NH):kC:=λouter H s E e s'=>∃ea cls od B H',e=.ref ea/\Iy cp P w outer H s B H' s' ea cls od/\H' ea=none/\E cls od H'
abbrev bG(P:NE)(w:NH):kC:=GO (λv=>v=.none) P w
theorem bt{cp:Value->Prop}{X:Cx}:dr (GO cp P w) X (λ_ _ _=>False):=λ_ _ _ _ _ _ _ h=>by
 obtain⟨_,_,_,_,_,_,_,_,f⟩:=h;exact f.elim
theorem tZ{B:Heap}(ok:kZ P w H h)(cov:∀b o,H b=some o->∃ob,B.get? b=some ob)(k:B.StaysIn h)(k':B.StaysIn h'):kZ P w H h':=λa o e=>
 (ok a o e).stay (λb u hb q=>by
  have hb':∃ob,B.get? b=some ob:=by
   rcases hb with rfl | hb
   ·exact cov _ _ e
   ·exact cov _ _ hb
  obtain⟨ob,c⟩:=hb';have:=k b ob c;rw[q]at this;cases this;exact k' b _ c) (λ_ q=>q) λ_ _ q=>q
theorem bM.there(x:bM P w H h a o):∃ob,h.get? a=some ob:=by
 cases o with
 |lst xs=>obtain⟨_,_,_,_,e⟩:=x;exact⟨_,e⟩
 |tup xs=>obtain⟨_,_,_,ob,e,_⟩:=x;exact⟨_,e⟩
 |dK kvs=>obtain⟨_,_,_,_,o,_,_,e,_⟩:=x;exact⟨_,e⟩
 |dT kvs=>obtain⟨_,_,_,_,o,_,_,e,_⟩:=x;exact⟨_,e⟩
 |set S n=>obtain⟨o,_,_,_,e,_⟩:=x;exact⟨_,e⟩
 |ins C dx fs=>obtain⟨_,_,_,e,_⟩:=x;exact⟨_,e⟩
 |own y=>exact x
 |xd fs=>obtain⟨_,⟨_,_,_,e,_⟩,_⟩:=x;exact⟨_,e⟩
 |rng lo hi=>obtain⟨_,_,_,e⟩:=x;exact⟨_,e⟩
 |frz ob u=>obtain⟨e,_⟩:=x;exact⟨_,e⟩
 |tbl ps=>exact⟨_,show h.get? a=some _ from x⟩
 |met f y=>exact⟨_,show h.get? a=some _ from x⟩
 |ext φ=>obtain⟨_,e,_⟩:=x;exact e
section
variable {P:NE}{w:NH}{K:Nu}{mg:NC}{base:Heap}{N:NF}{qual:Str}{scope:Scope}{f:Addr}{cd:Value}{A:NG}{outer:List Env}{s:Ny}{H:Hp}{E E1:XK}{CX:kC}
theorem Fly0.up{cp:Value->Prop}{pins:Nv}{σ:St}{s':Ny}{ea:Addr}{cls:Value}{od:NJ}(I:Inv X pins σ H1 s1)(hex:X.ex=[])(hst:X.stack=X.env::X.outer)(hfr:X.env.frame=some X.env.locals)(hP:X.prog=P)(hw:X.w=w)
  (x:Fly0 P w X.stack H1 s1 B H' s') (fl2:jg cp B X.outer ea cls od .none h') (up:s'.heap.UpToSlots h') :
  Iy cp P w X.outer X.H₀ X.s₀ B H' {s' with heap:=h' } ea cls od:=by
 have c:∀b,b∉X.ex:=λb=>by rw[hex];simp
 have m:∀b o,X.s₀.heap.get? b=some o->b∉X.fs->b∉lS X.stack:=λb o e a r=>by
  rw[hst]at r;unfold lS at r;rw[q0Q,hfr]at r;rcases MO.mp r with z | z
  ·exact q0N (MZ e) (by rw[z];exact Nat.not_lt.mpr I.ok.above)
  ·exact a z
 have l:∀b,b∈X.fs->b∈lS X.stack:=λb a=>by
  rw[hst];unfold lS;rw[q0Q,hfr];exact MP _ a
 have G:∀b o,X.s₀.heap.get? b=some o->b∉X.fs->∃p,B.get? b=some p:=λb o e a=>by
  obtain⟨C,j⟩:=I.base.there b o e (c b);exact x.old b C j (m b o e a)
 have J:∀b∈X.fs,X.H₀ b=none:=I.ok.frf;have n:∀b o,X.s₀.heap.get? b=some o->X.H₀ b=none->b∈X.fs->∃n,h'.get? b=some {o with slots:=n}:=λb o e g a=>by
  obtain⟨sl1,j⟩:=I.base.slot b o e g a (c b);have D:=I.base.free b o e g (c b);obtain⟨sl2,k⟩:=x.un.slot b _ j D (l b a) (by simp);obtain⟨_,o3,M,O⟩:=x.ff.mem (l b a);rw[k]at M;cases M;obtain⟨y,T⟩:=up b _ k O;exact⟨y,T⟩
 refine⟨⟨fl2.st,fl2.ff,⟨λb o e g a _=>?_,λb o e g a _=>n b o e g a,λb o e g _=>?_,λb o e _=>?_,λb L q=>x.un.tups b L (I.base.tups b L q),λb o u q=>x.un.frzs b o u (I.base.frzs b o u q),λb ps q=>?_⟩,tZ x.hok x.cov x.st fl2.st,x.cov,G,x.os.trans I.os,x.bare⟩,fl2⟩
 ·have j:=I.base.keep b o e g a (c b)
  have D:=I.base.free b o e g (c b);have k:=x.un.keep b o j D (m b o e a) (by simp);obtain⟨p,v⟩:=G b o e a;have:=x.st b p v;rw[k]at this;cases this;exact fl2.st b _ v
 ·obtain⟨C,j⟩:=I.base.there b o e (c b)
  exact x.un.free b C j (I.base.free b o e g (c b)) (by simp)
 ·by_cases a:b∈X.fs
  ·obtain⟨z,S⟩:=n b o e (J b a) a
   exact⟨_,S⟩
  ·obtain⟨p,v⟩:=G b o e a
   exact⟨_,fl2.st b _ v⟩
 ·obtain⟨m1,j⟩:=I.base.tbls b ps q
  obtain⟨R,k⟩:=x.un.tbls b _ j;exact⟨m1++R,by rw[k,Array.append_assoc]⟩
theorem aY{cp:Value->Prop}(hE:∀c d H',E1 c d H'->E c d H'):dr (GO cp P w) (gS (GO cp P w) P w K mg base N qual scope f cd A outer s H E) E1:=by
 intro pins σ H1 s1 e s' I x;obtain⟨l,g,j,B,H',rfl,a,k,q⟩:=x;refine HJ I.ok.frames rfl a.fl λh' b up=>?_;exact⟨l,g,j,B,H',rfl,Fly0.up I rfl rfl rfl rfl rfl a.toFly0 b up,k,hE _ _ _ q⟩
def DN(X:Cx)(E:XK):Prop:=∀(pins:Nv) (σ:St) (H:Hp) (s:Ny) (h':Heap) (e:Addr) (cls:Value) (vs:Nz),Inv X pins σ H s->Heap.MadeExcOf s.heap h' e cls vs->E cls none H->X.xe (.ref e) {s with heap:=h' }
theorem fb(hE:∀c d H',E1 c d H'->E c d H'):DN (gS (bG P w) P w K mg base N qual scope f cd A outer s H E) E1:=by
 intro pins σ H1 s1 h1 e cls vs I x q;have m:∀j∈(gS (bG P w) P w K mg base N qual scope f cd A outer s H E).stack,∀b,j.frame=some b->b∈lS (gS (bG P w) P w K mg base N qual scope f cd A outer s H E).stack:=λj C b r=>List.mem_filterMap.mpr ⟨j,C,r⟩;obtain⟨t0,p,ht0,htt⟩:=x.there;have B:∀b,s1.heap.get? b=none->H1 b=none:=λb r=>by
  cases z:H1 b with
  |none=>rfl
  |some o=>
   obtain⟨y,g⟩:=(I.hok b o z).there;rw[r]at g;cases g
 have n:=PySem.W.funFrames_hide I.stack m;have a:Fly0 P w (gS (bG P w) P w K mg base N qual scope f cd A outer s H E).stack H1 s1 (PySem.W.hideAll s1.heap (lS (gS (bG P w) P w K mg base N qual scope f cd A outer s H E).stack)) H1 {s1 with heap:=h1}:=
  ⟨λb o e=>x.keeps b o (PySem.W.of_hideAll _ e),n.of_keeps λb o e _=>⟨o,x.keeps b o e,rfl⟩,Un.kept x.keeps,I.hok.kept x.keeps,λb o z=>by
   obtain⟨y,g⟩:=(I.hok b o z).there;exact⟨y,PySem.W.hideAll_get _ g λl=>by rw[I.stkFree b l]at z;cases z⟩,λb o e l=>⟨o,PySem.W.hideAll_get _ e l⟩,rfl,I.bare⟩
 have k:(PySem.W.hideAll s1.heap (lS (gS (bG P w) P w K mg base N qual scope f cd A outer s H E).stack)).get? e=none:=by
  cases z:(PySem.W.hideAll s1.heap (lS (gS (bG P w) P w K mg base N qual scope f cd A outer s H E).stack)).get? e with
  |none=>rfl
  |some o=>have:=PySem.W.of_hideAll _ z;rw[x.new]at this;cases this
 refine Al (cp:=λv=>v=.none) (s:={s1 with heap:=h1}) I.ok.frames a.ff rfl p a.st k rfl rfl ⟨_,rfl,rfl⟩ λh' u up=>?_;exact⟨e,cls,none,_,H1,rfl,Fly0.up I rfl rfl rfl rfl rfl a u up,B e x.new,hE _ _ _ q⟩
end
structure pR(K:Nu)(C:Addr)(bmB:Nz)(newId:String):Prop where
 exc:PySem.W.excIn K C bmB newId=true
set_option tactic.hygienic true in
theorem pR.obj{K:Nu}{bmB:Nz}{newId:String}(c:pR K C bmB newId)(X:K.In h):∃bm N nm q bs hdct sn sub ab col dd k0 k1 k2 k3 k5 mN,
  h.get? C=some (excClassObj nm q C N bs bm hdct sn sub ab col dd k0 k1 k2 k3 k5 newId)/\h.Ns N mN/\mN "__init__"=none/\OwnTail h bmB bm/\∃dd' cd sl,K.lookup C=some ⟨.type "type",dd',.cls cd,sl⟩/\cd.mro=.ref C::bm:=by
 have q:=c.exc;unfold PySem.W.excIn at q;cases hl:K.lookup C with
 |none=>rw[hl]at q;cases q
 |some ob=>
  rw[hl]at q
  split at q
  ·rename_i dd cd sl e
   cases e
   split at q
   ·rename_i C' bm k0 k1 k2 k3 n k5 hm hs
    simp only[q0L,beq_iff_eq,Bool.not_eq_true']at q;obtain⟨⟨⟨⟨⟨rfl,rfl⟩,hdel⟩,ht⟩,hok⟩,hni⟩:=q;have ho:=X _ _ hl;have hsl:sl=#[k0,k1,k2,k3,some (.builtin n),k5]:=Array.toList_inj.mp hs;subst hsl;obtain⟨nm,bs,mro,ns,qn,hd,sn,sub,ab,col,del⟩:=cd;dsimp only at hm hdel hok hni ho;subst hm hdel;exact⟨bm,ns,nm,qn,bs,hd,sn,sub,ab,col,dd,k0,k1,k2,k3,k5,_,ho,.of_isNs (PySem.W.isNs_of_in X hok),PySem.W.nsMap_none_of_in X hok hni,PySem.W.tail_of_in X ht,dd,_,_,rfl,rfl⟩
   ·cases q
  ·cases q
section
variable {X:Cx}{x:Str}{np cpos pos:Pos}{e₀:Expr}{cP:NK}{t:TA}{C:Addr}{B Bn newId nid initId inN:String}{bm bmN:Nz}{E:XK}
def vV(C:Addr)(E:XK)(t:TA):TS:=λ_ σ H=>t σ H λvs H1=>vs.length<=sizeLine/\E (.ref C) none H1
theorem E8(c:pR X.K C bm newId)(Fn:ExcBaseFacts Bn newId inN bmN)(hBn:bm.contains (.type Bn)=true)(FB:ExcBaseFacts B nid initId bm)(hc:X.calm=true)(hg:Gl X x)(hm:X.mg x=some (.ref C))(hx:DN X E)(ha:PA X (e₀::cP) t)
  (hd:autoParam ((x==("__debug__":Str))=false) zz2._auto_1)
  (he:autoParam (starEach (e₀::cP) X.env=(false,eval e₀ X.env)::starEach cP X.env) zz0._auto_1) (hpl:autoParam ((backTo cpos (starEach cP X.env)).any (·.1)=false) zz0._auto_1) :
  PS X (.Raise (some (.Call (.Name x np) (e₀::cP) [] cpos)) none pos) (vV C E t):=by
 intro a s σ H D I h;obtain⟨l,N,nm,q,bs,hdct,sn,sub,ab,col,dd,k0,k1,k2,k3,k5,mN,r,p,k,T,_⟩:=c.obj I.mod.kin;refine wpAny_Raise_call_subU (C:=C) (nm:=nm) (q:=q) (N:=N) (bs:=bs) (bm:=l) (hdct:=hdct) (sn:=sn) (sub:=sub) (ab:=ab) (col:=col) (dd:=dd) (k0:=k0) (k1:=k1) (k2:=k2) (k3:=k3) (k5:=k5)
  Fn hBn FB (mN:=mN) (T.hasType FB.hasBase) (I.ok.hd hc) (by rw[he];show(false||(backTo cpos (starEach cP X.env)).any (·.1))=false;rw[hpl];rfl) k (gm I hg hm ⟨rfl,?_⟩ hd)
 rw[he];have b:=ha cpos a s σ H _ I h;rw[he]at b;exact Calls.evalArgs_plain (q0S b (λus m ⟨vs,v,g,n,z,o⟩=>⟨rfl,by rw[<- n.length];exact z,g.bk _ _ r,p.keeps g.bk,T.keeps g.bk,λu e j=>hx a σ v m u e _ _ g j o⟩) λ_ _ y=>y)
end
abbrev TX:=St->Hp->VK->XK->Prop
def PX(CX:kC)(X:Cx)(e:Expr)(t:TX):Prop:=
 ∀(pins:Nv) (s:Ny) (σ:St) (H:Hp) (Q:VK) (E:XK) (Ex:Nt),Inv X pins σ H s->t σ H Q E->(∀H1 s1 ev s',Inv X pins σ H1 s1->CX X.stack H1 s1 E ev s'->Ex ev s') ->
  wpAny (model X.prog X.w) X.A (eval e X.env) (EP X pins σ Q) Ex s
section
variable {X:Cx}{CX:kC}{k:Nat}{ps:NF}{sp:Sp}{x:Str}{p pos:Pos}{e:Expr}{es:NK}{t:TA}
def y7(sp:Sp)(t:TA):TX:=λσ H Q E=>t σ H λvs H1=>sp vs H1 Q E
theorem zC(c:dU X.prog X.w X.K X.mg X.base CX k x ps sp)(hr:dv k X.A)(hg:Gl X x)(ha:PA X.nox (e::es) t)(hdb:autoParam ((x==("__debug__":Str))=false) zz2._auto_1)
  (hst:autoParam (starEach (e::es) X.env=(false,eval e X.env)::starEach es X.env) zz0._auto_1) (hpl:autoParam ((backTo pos (starEach es X.env)).any (·.1)=false) zz0._auto_1):PX CX X (.Call (.Name x p) (e::es) [] pos) (y7 sp t):=by
 intro a s σ H Q E Ex I h hEx;obtain⟨f,fd,F,w,B,C⟩:=c.ex;refine wpAny_Call_Name_kw (gm I hg w ?_ hdb);refine PySem.W.callWith_K (h₀:=X.base) I.ok.mod.kin B (q0S (ha pos a s σ H _ (I.wish _) h) (λus j ⟨vs,m,n,r,q⟩=>⟨n.kIn,?_⟩) λ_ _ f=>f.elim) hst hpl;have l:Inv X a σ m j:=n.unwish;have y:(us++[]).length=ps.length:=by rw[M9,<- r.length];exact F.len _ _ _ _ q
 have g:=C j us l.kIn y;rw[M9]at g;refine wpAny_call (codeAny_mono (F.run X.A X.stack j m ⟨us,[]⟩ us vs Q E hr l.env0 g r q) λv o b=>?_);cases v with
 |error ev=>exact hEx m j ev o l b
 |ok fl=>
  cases fl with
  |ret u=>exact l.after b
  |next=>exact False.elim b
  |brk=>exact False.elim b
  |cont=>exact False.elim b
end
theorem Fly0.un2{outer:List Env}(x:Fly0 P w outer H s B H' s')(k6:B.StaysIn h6)(up:s'.heap.UpToSlots h6)(fr0:∀b∈lS outer,H b=none):Un (lS outer) [] H H' s.heap h6:=by
 have g:∀b o,s.heap.get? b=some o->H b=none->b∈lS outer->∃g,h6.get? b=some {o with slots:=g}:=λb o e c a=>by
  obtain⟨sl2,n⟩:=x.un.slot b _ e c a (by simp);obtain⟨_,o3,m,p⟩:=x.ff.mem a;rw[n]at m;cases m;obtain⟨k,r⟩:=up b _ n p;exact⟨k,r⟩
 refine⟨λb o e c a _=>?_,λb o e c a _=>g b o e c a,λb o e c _=>x.un.free b o e c (by simp),λb o e _=>?_,x.un.tups,x.un.frzs,x.un.tbls⟩
 ·obtain⟨l,j⟩:=x.old b o e a
  have:=x.st b l j;rw[x.un.keep b o e c a (by simp)]at this;cases this;exact k6 b _ j
 ·by_cases a:b∈lS outer
  ·obtain⟨z,q⟩:=g b o e (fr0 b a) a
   exact⟨_,q⟩
  ·obtain⟨l,j⟩:=x.old b o e a
   exact⟨_,k6 b _ j⟩
def GV(ea:Addr)(cls:Value)(od:NJ)(h:Heap):Prop:=∃o vs,h.get? ea=some o/\o.cls=cls/\o.dict=od/\o.data=.fields vs
abbrev xo(ea:Addr)(cls:Value)(od:NJ):HO:=.ext (GV ea cls od)
theorem Inv.caught{cp:Value->Prop}{pins:Nv}{σ:St}{s':Ny}{ea:Addr}{cls:Value}{od:NJ}(I:Inv X pins σ H s)(x:Fly0 X.prog X.w X.stack H s B H' s')(fl:jg cp B X.stack ea cls od .none h6)(up:s'.heap.UpToSlots h6)(hn:H' ea=none) :
  Inv X pins σ (ay H' ea (xo ea cls od)) {s' with heap:=h6}:=by
 obtain⟨C,vs,v,U,r,G⟩:=fl.there;have l:B.get? ea=none:=fl.new;have p:ea∉lS X.stack:=λT=>by
  obtain⟨_,o,D,R⟩:=fl.ff.mem T;rw[v]at D;cases D;exact R _ G
 have j:s.heap.get? ea=none:=by
  cases z:s.heap.get? ea with
  |none=>rfl
  |some o=>
   obtain⟨o',L⟩:=x.old ea o z p;rw[l]at L;cases L
 have u:=x.un2 fl.st up I.stkFree;have m:=tZ x.hok x.cov x.st fl.st;have g:∀b o,H' b=some o->b≠ea:=λb o e z=>by rw[z,hn]at e;cases e
 refine I.call' (ch:=[]) x.os ⟨u.keep,u.slot,λb o e n S=>?_,u.there,λb w q=>?_,λb o y q=>?_,λb O q=>?_⟩ (λb o e=>?_) x.bare (λb z=>q0N z (by simp))
 ·have nb:b≠ea:=λz=>by rw[z,j]at e;cases e
  rw[ao nb];exact u.free b o e n S
 ·have a:=u.tups b w q
  rw[ao (g _ _ a)];exact a
 ·have a:=u.frzs b o y q
  rw[ao (g _ _ a)];exact a
 ·obtain⟨more,a⟩:=u.tbls b O q
  exact⟨more,by rw[ao (g _ _ a)];exact a⟩
 ·by_cases J:b=ea
  ·subst J
   rw[ad]at e;cases e;exact⟨⟨C,vs,v,U,r,G⟩,⟨C,v⟩,λh1 h2 ⟨o,M,e1,e2,Z,Y⟩ k=>⟨o,M,k o e1,e2,Z,Y⟩⟩
  ·rw[ao J]at e
   exact(m b o e).stay (λ_ _ _ q=>q) (λc q=>by rw[ao (g _ _ q)];exact q) λc w q=>by rw[ao (g _ _ q)];exact q
end L2
namespace PySem
open Sem (wp)
section
variable {M:Model}{A:NG}{E:Nt}
variable {nm q nm' q':Str}{C N D N':Addr}{bs bm bs' bm':Nz}{hdct hdct':Bool}{sn sn':NF}{sub sub':Nz}{ab ab':Bool}{col col':Option Bool}{dd dd':NJ}{k0 k1 k2 k3 k5 k0' k1' k2' k3' k5':Option Value}{newId newId':String}
theorem iR{h:Heap}{g:Array GenState}{d:Drawn}{t:Nat}{os:OsState}{e:Addr}{oe:Obj}{Q:Bool->Shared->Prop}
  (hC:h.get? C=some (excClassObj nm q C N bs bm hdct sn sub ab col dd k0 k1 k2 k3 k5 newId)) (hD:h.get? D=some (excClassObj nm' q' D N' bs' bm' hdct' sn' sub' ab' col' dd' k0' k1' k2' k3' k5' newId')) (he:h.get? e=some oe) (hcls:oe.cls=.ref C)
  (hbase:bm'.contains (.type "BaseException")=true) (hsub:(Value.ref C::bm).contains (.ref D)=true)
  (hq:Q true ⟨h,g,d,t,os⟩):wpAny M A (excMatches (.ref e) (.ref D)) Q E ⟨h,g,d,t,os⟩:=by
 have a:(Value.ref D::bm').contains (.type "BaseException")=true:=by rw[List.contains_cons,hbase,Bool.or_true]
 have f:=tc_notTuple;unfold excMatches
 repeat (first | (with_reducible refine wpAny_loadPart_at he ?_;rw[hcls]) | with_reducible refine wpAny_loadPart_at hD ?_ | (with_reducible refine wpAny_isSubtype_exc hD ?_;rw[a]) | (with_reducible refine wpAny_isSubtype_exc hC ?_;rw[hsub]) | wp_step)
 exact hq
end
end PySem
namespace L2
open PySem PySem.Spec PyProof.Rows
section
variable {X:Cx}{pins:Nv}{σ:St}{H:Hp}{s:Ny}
theorem d9{i:Nat}{x:Str}{v:V}{pos:Pos}{Q:Unit->Shared->Prop}(I:Inv X pins σ H s)(hN:X.N.Nodup)(hi:X.N[i]?=some x)(hk:X.env.kindOf x=some .local)
  (h:∀s',Inv X pins (σ.set i none) H s'->Q () s'):wpAny M A (do bindName X.env x .none;unbindBehindTheSuite X.env x pos) Q E s:=by
 have g:X.env.scope.names.lookup x=some .local:=hk;refine q04 (wpAny_bindName (kt (v:=.non) I hN hi (.inl g) rfl (λs1 a=>?_) (.inr g)));unfold unbindBehindTheSuite;have B:i<σ.length:=by rw[I.len];exact(My.mp hi).1
 obtain⟨m,S,T⟩:=id a.loc;obtain⟨u,ru,lk⟩:=T i x .non hi (M' B) (.inl g);have hm:m x=some u:=by
  rcases lk with⟨_,e⟩ | ⟨z,_⟩
  ·exact e
  ·rw[hk]at z;rcases z with z | z<;>cases z
 have C:(X.env.scope.kind==.class||(X.env.scope.kind==.module&&X.env.locals != X.env.globals))=false:=by rw[I.ok.kind];rfl
 refine wpAny_onRaise (wpAny_unbindName_local hk S hm C λh' R J l=>?_);have cne:=a.cne;obtain⟨oL,_,_,hoL,_⟩:=id S;refine h _ ⟨a.ok,a.os,a.bare,⟨λb o e n L w=>?_,λb o e n L w=>?_,a.base.free,λb o e w=>?_,a.base.tups,a.base.frzs,a.base.tbls⟩,⟨_,J,λj y U r G e3=>?_⟩,λy c e=>?_,a.free,a.freeC,λp hp=>?_,λb ob e=>?_,by rw[Nl];exact I.len⟩
 ·exact(l.2 b (MS (MR (MZ e) a.ok.above))).trans (a.base.keep b o e n L w)
 ·obtain⟨Y,r⟩:=a.base.slot b o e n L w
  exact⟨Y,(l.2 b (MS (MR (MZ e) a.ok.above))).trans r⟩
 ·obtain⟨o',r⟩:=a.base.there b o e w
  exact⟨o',(l.2 b (MS (MR (MZ e) a.ok.above))).trans r⟩
 ·by_cases D:j=i
  ·subst D
   rw[M' B]at G;cases G
  ·rw[List.getElem?_set_ne (Ne.symm D)]at G
   obtain⟨R,Z,q⟩:=T j y U r (by rw[List.getElem?_set_ne (Ne.symm D)];exact G) e3;refine⟨R,Z,?_⟩;rcases q with⟨k,e⟩ | ⟨k,c,e,z⟩
   ·refine .inl ⟨k,?_⟩
    have:y≠x:=λe=>D (rL hN r (e▸hi));simp[this,e]
   ·exact .inr ⟨k,c,e,z.sameBut l (cne y c e)⟩
 ·obtain⟨O,z⟩:=a.cell y c e
  exact⟨O,z.sameBut l (cne y c e)⟩
 ·obtain⟨e,n,ne,nf,d⟩:=a.pin p hp
  exact⟨(l.2 p.1 ne).trans e,n,ne,nf,d⟩
 ·refine(a.hok b ob e).stay (λc O hc q=>(l.2 c ?_).trans q) (λ_ q=>q) λ_ _ q=>q
  rintro rfl;rcases hc with rfl | hc
  ·rw[a.free]at e;cases e
  ·rw[a.free]at hc;cases hc
abbrev Cx.held(X:Cx)(ea:Addr):Cx:={X with A:=X.A.mark (some (.ref ea)),calm:=false,xe:=λ_ _=>False}
theorem Inv.held(I:Inv X pins σ H s)(ea:Addr):Inv (X.held ea) pins σ H s:=
 ⟨⟨I.ok.mod,I.ok.kind,I.ok.glob,I.ok.blt,I.ok.above,I.ok.inj,I.ok.has,I.ok.cab,(λz=>by cases z),I.ok.frames,I.ok.stk,I.ok.exf,I.ok.bs,I.ok.bsz,I.ok.noex,I.ok.exfs,I.ok.funs,I.ok.frf⟩,I.os,I.bare,I.base,I.loc,I.cell,I.free,I.freeC,I.pin,I.hok,I.len⟩
theorem Inv.unheld{ea:Addr}(hd:X.calm=true->X.A.handled=none)(I:Inv (X.held ea) pins σ H s):Inv X pins σ H s:=
 ⟨⟨I.ok.mod,I.ok.kind,I.ok.glob,I.ok.blt,I.ok.above,I.ok.inj,I.ok.has,I.ok.cab,hd,I.ok.frames,I.ok.stk,I.ok.exf,I.ok.bs,I.ok.bsz,I.ok.noex,I.ok.exfs,I.ok.funs,I.ok.frf⟩,I.os,I.bare,I.base,I.loc,I.cell,I.free,I.freeC,I.pin,I.hok,I.len⟩
end
def oS(K:Nu)(C D:Addr):Prop:=∃dd cd sl,K.lookup C=some ⟨.type "type",dd,.cls cd,sl⟩/\cd.mro.contains (.ref D)=true
section
variable {X:Cx}{pins:Nv}{σ:St}{H:Hp}{s:Ny}
theorem Inv.moved{ch:NA}{h':Heap}{tk:Nat}(I:Inv X pins σ H s)(hf:∀b∈ch,pI X pins H b)(k:∀b o,b∉ch->s.heap.get? b=some o->h'.get? b=some o):Inv X pins σ H {s with heap:=h',toks:=tk}:=by
 have a:∀b o,H b=some o->b∉ch:=λb o e z=>by rw[(hf b z).1]at e;cases e
 refine I.call' (s':={s with heap:=h',toks:=tk}) (ch:=ch) rfl ⟨λb o e _ _ hc=>k b o hc e,λb o e _ _ hc=>⟨o.slots,k b o hc e⟩,λb o e n hc=>n,λb o e hc=>⟨o,k b o hc e⟩,λb xs q=>q,λb o y q=>q,λb qs q=>⟨#[],by rw[q];simp⟩⟩
  (λb o e=>(I.hok b o e).stay (λc u hc q=>k c u (by
   rcases hc with rfl | hc
   ·exact a _ _ e
   ·exact a _ _ hc) q) (λ_ q=>q) λ_ _ q=>q) I.bare λb g=>?_
 obtain⟨f0,p,f2,m,l,j⟩:=hf b g;exact⟨m,p,l,j⟩
theorem Inv.movedT{ch:NA}{h':Heap}{tk:Nat}{T:Addr}{ob:HO}(I:Inv X pins σ H s)(hf:∀b∈ch,pI X pins H b)(k:∀b o,b∉ch->s.heap.get? b=some o->h'.get? b=some o)(hT:s.heap.objs.size<=T)(new:bM X.prog X.w (ay H T ob) h' T ob) :
  Inv X pins σ (ay H T ob) {s with heap:=h',toks:=tk}:=by
 have j:∀b o,H b=some o->b∉ch:=λb o e z=>by rw[(hf b z).1]at e;cases e
 have a:H T=none:=I.hok.fresh hT;have m:∀b o,s.heap.get? b=some o->b≠T:=λb o e z=>by rw[z]at e;exact q0N (MZ e) (Nat.not_lt.mpr hT)
 refine I.call' (s':={s with heap:=h',toks:=tk}) (ch:=ch) rfl ⟨λb o e _ _ hc=>k b o hc e,λb o e _ _ hc=>⟨o.slots,k b o hc e⟩,λb o e n hc=>by rw[ao (m b o e)];exact n,λb o e hc=>⟨o,k b o hc e⟩,λb l q=>by rw[ao (aI q a)];exact q,λb o y q=>by rw[ao (aI q a)];exact q,λb qs q=>⟨#[],by rw[ao (aI q a),q];simp⟩⟩
  (λb o e=>?_) I.bare λb g=>?_
 ·by_cases g:b=T
  ·subst g
   rw[ad]at e;cases e;exact new
  ·rw[ao g]at e
   exact(I.hok b o e).stay (λc u hc q=>k c u (by
    rcases hc with rfl | hc
    ·exact j _ _ e
    ·exact j _ _ hc) q) (λc q=>by rw[ao (aI q a)];exact q) λc l q=>by rw[ao (aI q a)];exact q
 ·obtain⟨f0,w,f2,v,r,p⟩:=hf b g
  exact⟨v,w,r,p⟩
end
def I_(K:Nu)(a b:Addr):It:=
 ⟨λi H=>∃xs ys x y,aW K H a xs/\aW K H b ys/\xs[i]?=some x/\ys[i]?=some y,λi H v H'=>∃T x y,v=.ref T/\H T=none/\H'=ay H T (.tup [x,y])/\(∀xs,aW K H a xs->xs[i]?=some x)/\∀ys,aW K H b ys->ys[i]?=some y,
  λi H=>∃xs ys,aW K H a xs/\aW K H b ys/\(xs.length<=i\/ys.length<=i)⟩
theorem Db{K:Nu}{elts:NK}{tp:Pos}{z TI TO:Addr}(D:ZipApart z TI TO i1 i2 l1 l2) :
  rG P w K (.Tuple elts x1 tp) (I_ K l1 l2) [z,TI,TO,i1,i2] z (λi h=>IsZip h z TI TO .none/\IsPair h TI (.ref i1) (.ref i2)/\(∃a b,IsPair h TO a b)/\h.IsListIter i1 l1 i/\h.IsListIter i2 l2 i) where
 mem:=by simp
 obj:=λi h n b L=>by
  obtain⟨p,g,⟨a,c,j⟩,⟨o1,e1,c1,d1⟩,⟨o2,e2,c2,d2⟩⟩:=n;simp only[MO,List.not_mem_nil,or_false]at L;rcases L with rfl | rfl | rfl | rfl | rfl
  ·exact⟨_,p,λv q=>by cases q⟩
  ·exact⟨_,g,λv q=>by cases q⟩
  ·exact⟨_,j,λv q=>by cases q⟩
  ·exact⟨_,e1,λv q=>by rw[d1]at q;cases q⟩
  ·exact⟨_,e2,λv q=>by rw[d2]at q;cases q⟩
 keep:=λi h h' n m=>by
  obtain⟨p,g,⟨a,b,j⟩,h1,h2⟩:=n;exact⟨m z (by simp) _ p,m TI (by simp) _ g,⟨a,b,m TO (by simp) _ j⟩,h1.at λo e=>m i1 (by simp) o e,h2.at λo e=>m i2 (by simp) o e⟩
 item:=by
  intro X hP hw hK l i M s σ H E I hf n hg;subst hP hw hK;obtain⟨xs,ys,x,y,u,r,hx,hy⟩:=hg;obtain⟨R,C,p1,a7⟩:=I.list u;obtain⟨O,B,p2,a0⟩:=I.list r;obtain⟨U,b0,Z⟩:=C.get hx;obtain⟨T,a9,Y⟩:=B.get hy;obtain⟨p,g,⟨a,b,j⟩,h1,h2⟩:=n;refine wpAny_pyNext_zip_item D p g j h1 h2 p1.isList p2.isList (x:=U) (y:=T) (by simpa using b0) (by simpa using a9) λh' a1 a2 a3 a4 a5 a6 m=>?_;refine⟨_,rfl,wpAny_letOwnedTupleGo_zip a1 λS a8 k=>?_⟩;have J:H s.heap.objs.size=none:=I.hok.fresh (MW _);have lt:∀{c o},s.heap.get? c=some o->s.heap.objs.size≠c:=λe=>Nat.ne_of_gt (MZ e);have kk:∀c o,c∉[z,TI,TO,i1,i2]->s.heap.get? c=some o->S.get? c=some o:=λc o l e=>
   k.extBut _ _ (λq=>l (by simp[q])) (m c o (λq=>l (by simp[q])) (λq=>l (by simp[q])) (λq=>l (by simp[q])) (λq=>l (by simp[q])) e)
  have hT:S.get? s.heap.objs.size=some {cls:=.type "tuple",data:=.seq #[U,T]}:=k.extBut _ _ (lt p) a5;refine⟨.ref s.heap.objs.size,ay H s.heap.objs.size (.tup [x,y]),I.movedT (tk:=s.toks) hf kk (MW _) ⟨show 2<=sizeLine from by decide +kernel,[U,T],.cons Z (.cons Y .nil),_,hT,rfl,_,rfl⟩,rfl,
   ⟨_,x,y,rfl,J,rfl,λzs G=>by rw[I.list_inj G u];exact hx,λzs G=>by rw[I.list_inj G r];exact hy⟩,
   ⟨a8,k.extBut _ _ D.TIz (m _ _ D.TIz D.TITO D.TIi1 D.TIi2 g),⟨_,_,k.extBut _ _ D.TOz a2⟩,a3.extBut k.extBut D.i1z,a4.extBut k.extBut D.i2z⟩,λb L=>?_⟩
  have b1:b≠s.heap.objs.size:=by
   obtain⟨o1,e1,_⟩:=h1;obtain⟨o2,e2,_⟩:=h2;simp only[MO,List.not_mem_nil,or_false]at L;rcases L with rfl | rfl | rfl | rfl | rfl
   ·exact(lt p).symm
   ·exact(lt g).symm
   ·exact(lt j).symm
   ·exact(lt e1).symm
   ·exact(lt e2).symm
  rw[ao b1];exact(hf b L).1
 done:=by
  intro X hP hw hK l i M s σ H E I hf n hg;subst hP hw hK;obtain⟨xs,ys,u,r,hx⟩:=hg;obtain⟨R,C,p1,a7⟩:=I.list u;obtain⟨O,B,p2,a0⟩:=I.list r;obtain⟨p,g,⟨a,b,j⟩,h1,h2⟩:=n;have l1':=C.length;have l2':=B.length;refine wpAny_pyNext_zip_end (I.ok.hd l) D p g j h1 h2 p1.isList p2.isList ?_ λh' m=>⟨rfl,I.moved (tk:=s.toks) hf λc o l e=>m c o (λq=>l (by simp[q])) (λq=>l (by simp[q])) (λq=>l (by simp[q])) (λq=>l (by simp[q])) e⟩;rcases hx with hx | hx
  ·exact .inl (by simp;omega)
  ·exact .inr (by simp;omega)
 self:=λ_ _ _ _ _ n h=>wpAny_pyIter_zip n.1 h
theorem tD(n l1 l2:Nat)(h1:l1<n)(h2:l2<n):ZipApart (n+4) (n+2) (n+3) n (n+1) l1 l2:=by
 constructor<;>exact λe=>q0N (show(_:Nat)=_ from e) ⋯
section
variable {X:Cx}{elts:NK}{x1:Nat}{tp:Pos}
def Ib(K:Nu)(ta:TA):TI:=λσ H R=>ta σ H λvs H1=>∃a b xs ys,vs=[.ref a,.ref b]/\aW K H1 a xs/\aW K H1 b ys/\R (I_ K a b) H1
theorem D2{a b:Expr}{ta:TA}{p pos:Pos}(hg:Gl X "zip")(hm:X.mg "zip"=none)(ha:PA X [a,b] ta)(hs:autoParam (starEach [a,b] X.env=[(false,eval a X.env),(false,eval b X.env)]) zz0._auto_1)(hs2:autoParam (starEach [b] X.env=[(false,eval b X.env)]) zz0._auto_1):PI X (.Tuple elts x1 tp) (.Call (.Name "zip" p) [a,b] [] pos) (Ib X.K ta):=by
 intro g s σ H R I h;refine Call_ (fC I hg hm boot_zip (PyProof.Rows.callWith_type1 (bV (ha pos g s σ H _ I h) λus c ⟨vs,B,k,O,S⟩=>?_) (by rw[hs,hs2]) (by rw[hs2];rfl)));obtain⟨l1,l2,xs,ys,rfl,o,n,q⟩:=S;obtain⟨u,v,rfl,M,L⟩:=O.two;cases M;cases L;obtain⟨its1,rv1,x,_⟩:=k.list o;obtain⟨its2,rv2,w,_⟩:=k.list n;refine call_zip_2 x.isList w.isList λU r J G D C z6 T=>?_;have m:l1<c.heap.objs.size:=by obtain⟨_,e,_⟩:=x.isList;exact MZ e
 have l:l2<c.heap.objs.size:=by obtain⟨_,e,_⟩:=w.isList;exact MZ e
 have Y:Inv X g σ B {c with heap:=U }:=k.kept (t':=c.toks) T;refine wpAny_pyIter_zip r ?_;refine⟨c.heap.objs.size+4,[c.heap.objs.size+4,c.heap.objs.size+2,c.heap.objs.size+3,c.heap.objs.size,c.heap.objs.size+1],_,_,B,rfl,Y,Db (l1:=l1) (l2:=l2) ?_,⟨r,J,⟨_,_,G⟩,D,C⟩,λb y=>?_,q⟩
 ·exact tD _ _ _ m l
 ·have j:c.heap.objs.size<=b:=by
   simp only[MO,List.not_mem_nil,or_false]at y;rcases y with e | e | e | e | e<;>(rw[e];first | exact MW _ | exact Nat.le_add_right _ _)
  exact k.fpOk j (k.hok.fresh j)
end
end L2
namespace PySem.W
open PySem PySem.Spec PySem.Calls PyProof.Rows
section
variable {prog:NE}{w:NH}{A:NG}{E:Nt}{s:Ny}{K:Frag}{x D:Addr}{ox:Obj}{odo:Option Obj}{name:Str}
theorem AT(self:Value):bindSpecial (.builtin "BaseException.__getattribute__") self=pure (.builtin "BaseException.__getattribute__",[self]):=F.excAttr_ValueError.ga.bind self
theorem wx{tk:Tok}{Q:Unit->Shared->Prop}(X:K.In s.heap)(I:InstAt s.heap x ox D odo)(hb:mroIn K D (.type "BaseException")=some true)(h:Q () s) :
  wpAny (model prog w) A (checkBuiltinCall "BaseException.__getattribute__" ⟨[.ref x,.str name tk],[]⟩) Q E s:=by
 have k:=I.type (M:=model prog w);have j:=looks_mroIn (M:=model prog w) X hb;have g:Looks (model prog w) s.heap (isInstance (.ref x) (.type "BaseException")) true:=k.andThen j;have e:builtinKind "BaseException.__getattribute__"=some .slot:=by decide +kernel
 have c:splitId "BaseException.__getattribute__"=some ("BaseException","__getattribute__"):=by decide +kernel
 have b:=F.args_bexc_ga (.ref x) (.str name tk);simp only[checkBuiltinCall,e,c];refine q04 (g.at ?_);simp only[Bool.not_true,q0V,if_false];cases a:Manifest.signature? "BaseException.__getattribute__" with
 |none=>exact q05 h
 |some sig=>
  simp only[argsOk,a]at b;show wpAny _ _ (Bind.checkArgs _ sig _) Q E s;rw[b];exact q05 h
theorem Bs{Q:Option Value->Shared->Prop}(X:K.In s.heap)(I:InstAt s.heap x ox D odo)(hga:findIn K (.ref D) "__getattribute__"=some (some (.builtin "BaseException.__getattribute__")))(hgh:findIn K (.ref D) "__getattr__"=some none)
  (hb:mroIn K D (.type "BaseException")=some true) (hf:findObj K D odo name=some (.bind g a))
  (hc:∀(A':NG) (R:Result->Shared->Prop),R (.ok (.ret v)) {s with toks:=s.toks+1}->codeAny (model prog w) A' (.call g ⟨[a,.ref x,.ref D],[]⟩) R {s with toks:=s.toks+1}) (hv:handedIn v=true) (h:Q (some v) {s with toks:=s.toks+1}) :
  wpAny (model prog w) A (getAttr? (.ref x) name) Q E s:=by
 obtain⟨hh,gg,d,t,os⟩:=s;have b:=I.type (M:=model prog w);have k:=looks_findIn (M:=model prog w) X hga;have j:=looks_findIn (M:=model prog w) X hgh;have e:=looks_find (M:=model prog w) X I hf;unfold getAttr? getAttrBy? getAttrBy;refine q04 (wpAny_mkText (q04 (wpAny_attempt (q0T (q04 (b.at (q04 (k.at ?_))))))));show wpAny _ _ (getAttrByItsOwn _ _ _ _ _ _) _ _ _;unfold getAttrByItsOwn hookBefore;refine q04 (j.at ?_);refine q04 (wpAny_attempt (q0T ?_));unfold callGetattribute boundAndCalled;show wpAny _ _ (bindSpecial _ _ >>= _) _ _ _;rw[AT];refine q04 (q05 ?_);refine wpAny_call (codeAny_call_builtin F.excAttr_ValueError.ga.plain F.entry_bexc_ga (wx X I hb ?_));have c:slotArgs "__getattribute__" 1 ⟨[.ref x,.str name t],[]⟩=pure (.ref x,[.str name t]):=rfl;unfold Builtin.«object.__getattribute__»;show wpAny _ _ (slotArgs "__getattribute__" 1 ⟨[.ref x,.str name t],[]⟩ >>= _) _ _ _;rw[c];refine q04 (q05 ?_);refine q04 (q05 (q04 (b.at (q04 (e.at ?_)))));show wpAny _ _ (holding [a] (call g [a,.ref x,.ref D]) >>= ret) _ _ _;refine q04 (q0T (wpAny_call (hc _ _ (q05 ?_))));exact handed_on hv (q05 h)
theorem Bu{Q:Option Value->Shared->Prop}(X:K.In s.heap)(I:InstAt s.heap x ox D odo)(hga:findIn K (.ref D) "__getattribute__"=some (some (.builtin "BaseException.__getattribute__")))(hgh:findIn K (.ref D) "__getattr__"=some none)
  (hb:mroIn K D (.type "BaseException")=some true) (hm:mroIn K D (.type "object")=some true) (hf:findObj K D odo "__class__"=some (.bind (.builtin "getset_descriptor.__get__") (.builtin "object.__class__"))) (h:Q (some (.ref D)) {s with toks:=s.toks+1}) :
  wpAny (model prog w) A (getAttr? (.ref x) "__class__") Q E s:=
 Bs (v:=.ref D) X I hga hgh hb hf (λA' R hR=>class_get (s:={s with toks:=s.toks+1}) (ox:=ox) (od:=odo) X I hm hR) rfl h
structure XTy(K:Frag)(D:Addr):Prop where
 ga:findIn K (.ref D) "__getattribute__"=some (some (.builtin "BaseException.__getattribute__"))
 gh:findIn K (.ref D) "__getattr__"=some none
 mb:mroIn K D (.type "BaseException")=some true
 mo:mroIn K D (.type "object")=some true
 ha:findIn K (.ref D) "__class__"=some (some (.builtin "object.__class__"))
 hn:specialIn K (.builtin "object.__class__") "__get__"=some (some (.builtin "getset_descriptor.__get__"))
 tk:takesIn K (.builtin "object.__class__")=some true
 cl:∃dd cd sl,K.lookup D=some ⟨.type "type",dd,.cls cd,sl⟩
theorem XTy.find(c:XTy K D):findObj K D odo "__class__"=some (.bind (.builtin "getset_descriptor.__get__") (.builtin "object.__class__")):=by
 obtain⟨dd,e,sl,a⟩:=c.cl;have b:clsIn K D=some e:=by unfold clsIn;rw[a]
 unfold findObj;rw[b,Option.bind_some,c.ha,Option.bind_some];simp[c.hn,c.tk]
theorem kitx_exc(c:XTy K D):KitX K (.ref x) (.ref D) (λh=>∃ox,InstAt h x ox D odo) where
 ty:=λ_ _ _ ⟨_,I⟩=>I.type
 it:=λ_ _ X _=>by
  obtain⟨dd,cd,sl,hl⟩:=c.cl;intro A' Q' E' s' k q;unfold isType loadHead;exact q04 (wpAny_loadPart (k _ _ (X _ _ hl)) (q05 q))
 ne:=λh tp dd its n sl X htp=>by
  obtain⟨dd,cd,sl,hl⟩:=c.cl;refine Bool.eq_false_iff.mpr λq=>?_;have e:D=tp:=Value.ref.inj (beq_iff_eq.mp q);subst e;have z:=q0O (λo=>o.map Obj.cls) ((X _ _ hl).symm.trans htp);simp at z
 ca:=λX ⟨_,I⟩ k=>Bu X I c.ga c.gh c.mb c.mo c.find k
end
end PySem.W
namespace L2
open PySem PySem.Spec PyProof.Rows
section
variable {X:Cx}
theorem Dr{h:Heap}(e:GV a (.ref C) none h):∃ox,PySem.W.InstAt h a ox C none:=by
 obtain⟨o,vs,j,g,c,b⟩:=e;exact⟨o,j,g,by unfold PySem.W.notCls;rw[b],by rw[c];trivial⟩
theorem wW:∀{cs:List V} {us:Nz},bo cs us->(∀c∈cs,l8 c=true)->us=cs.map zO
 | [],_,.nil,_=>rfl
 |c::cs,_,.cons r t,h=>by rw[M5,vD r (h c (by simp)),wW t λz hz=>h z (by simp[hz])]
end
structure XR(K:Nu)(C:Addr):Prop where
 ex:∃(bm bmN:Nz) (newId Bn inN B nid initId:String),pR K C bm newId/\ExcBaseFacts Bn newId inN bmN/\bm.contains (.type Bn)=true/\ExcBaseFacts B nid initId bm
theorem dF{X:Cx}{np cpos pos:Pos}{e₀:Expr}{cP:NK}{t:TA}(c:XR X.K C)(hc:X.calm=true)(hg:Gl X x)(hm:X.mg x=some (.ref C))(hx:DN X E)(ha:PA X (e₀::cP) t)
  (hd:autoParam ((x==("__debug__":Str))=false) zz2._auto_1)
  (he:autoParam (starEach (e₀::cP) X.env=(false,eval e₀ X.env)::starEach cP X.env) zz0._auto_1) (hpl:autoParam ((backTo cpos (starEach cP X.env)).any (·.1)=false) zz0._auto_1) :
  PS X (.Raise (some (.Call (.Name x np) (e₀::cP) [] cpos)) none pos) (vV C E t):=by
 obtain⟨bm,bmN,newId,Bn,inN,B,nid,initId,g,e,b,a⟩:=c.ex;exact E8 g e b a hc hg hm hx ha hd he hpl
section
variable {P:NE}{w:NH}{K:Nu}{mg:NC}{base:Heap}
theorem cF.okX{qual:Str}{st:Stmt}{f:Addr}{ps:NF}{sp:Sp}(F:cF K x qual st f fd)(S:aw N ps (aj st))(len:∀vs H Q E,sp vs H Q E->vs.length=ps.length)
  (hbody:∀(cdv:Value) (A:NG) (outer:List Env) (s:Ny) (H:Hp) (vs:List V) (Q:VK) (E:XK),dv k (A.deeper (envOfC qual (aj st) s.heap.objs.size f cdv))->sp vs H Q E ->
   ∃t,wu (gS (bG P w) P w K mg base N qual (aj st) f cdv A outer s H E) (aT st) t/\t {nx:=λ_ H'=>Q .non H',rt:=Q} (start N vs) H):aS P w K mg base (bG P w) (k+1) f fd ps sp:=by
 obtain⟨oc,od,kV,doc,pm,an,cdv,ct,osl,rfl,c,b⟩:=F.ex;exact GL c b S len λA outer s H vs Q E hr a=>hbody cdv A outer s H vs Q E hr a
theorem aS.lift{CX:kC}{f:Addr}{ps:NF}{sp:Sp}(F:↑aS k f fd ps sp):aS P w K mg base CX k f fd ps sp:=
 ⟨F.len,λA outer s H args us vs Q E hr he hb hv hs=>codeAny_mono (F.run A outer s H args us vs Q E hr he hb hv hs) λr s' hq=>by
  cases r with
  |error e=>exact False.elim hq
  |ok fl=>cases fl<;>exact hq⟩
theorem dU.lift{CX:kC}{ps:NF}{sp:Sp}(c:↑dU k x ps sp):dU P w K mg base CX k x ps sp:=by
 obtain⟨f,a,F,r⟩:=c.ex;exact⟨f,a,F.lift,r⟩
end
theorem vA{X:Cx}{K:Nu}{es:NK}{t:GU}{n:Nat}{pos:Pos}(hK:X.K=K)(hc:X.calm=true)(h:IR X es t)
  (hn:autoParam ((assignEach es X.env).length=n) zz0._auto_1) (hst:autoParam ((assignEach es X.env).findIdx? (·.1)=none) zz0._auto_1):PG X (.Tuple es k pos) (Ef K n t):=hK▸fB hc h hn hst
section
variable {K:Nu}{g:TG}{ti:TT}{te:TE}{σ:St}{H:Hp}{Q:List V->Hp->Prop}
theorem xZ{b:Addr}{xs ys:List V}{n:Nat}(hn:n=min xs.length ys.length)(Pv:Nat->List V->St->Hp->Prop)(h0:Pv 0 [] σ H)(hz:∀i acc σ H,Pv i acc σ H->acc.length<sizeLine)(hi:∀i acc σ H,Pv i acc σ H->i<=n)
  (hl:∀i acc σ H,Pv i acc σ H->aW K H a xs/\aW K H b ys)
  (hs:∀i x y acc σ H T,xs[i]?=some x->ys[i]?=some y->Pv i acc σ H->H T=none->g (.ref T) σ (ay H T (.tup [x,y])) λσ2 H3=>ti σ2 H3 λb H4=>if b=true then te σ2 H4 λv H5=>Pv (i+1) (acc++[v]) σ2 H5 else Pv (i+1) acc σ2 H4)
  (he:∀acc σ H,Pv n acc σ H->Q acc H):jy (I_ K a b) g ti te σ H Q:=by
 refine kN (J:=I_ K a b) (g:=g) (ti:=ti) (te:=te) (Q:=Q) (n:=n) Pv h0 hz hi (λacc σ H w=>⟨xs,ys,(hl _ _ _ _ w).1,(hl _ _ _ _ w).2,⋯⟩)
  (λi acc σ H hlt w=>⟨xs,ys,xs[i]'⋯,ys[i]'⋯,(hl _ _ _ _ w).1,(hl _ _ _ _ w).2,Mx ⋯,Mx ⋯⟩) (λi x acc σ H H2 hlt w y=>?_) he
 obtain⟨T,x,y,rfl,j,rfl,e,c⟩:=y;exact hs i x y acc σ H T (e xs (hl _ _ _ _ w).1) (c ys (hl _ _ _ _ w).2) w j
end
end L2
namespace QL
open PySem
theorem sH:bootBuiltins "ValueError"=some (.type "ValueError"):=by decide +kernel
end QL
namespace L2
open PySem PySem.Spec PyProof.Rows
def JG(K:Nu)(a:Addr):It:=
 ⟨λi H=>∃xs x,aW K H a xs/\xs[i]?=some x,λi H v H'=>∃T x,v=.ref T/\H T=none/\H'=ay H T (.tup [.int (i:Int),x])/\∀xs,aW K H a xs->xs[i]?=some x,λi H=>∃xs,aW K H a xs/\xs.length<=i⟩
theorem B3{K:Nu}{elts:NK}{tp:Pos}{e it:Addr}(hei:e≠it) :
  rG P w K (.Tuple elts x1 tp) (JG K l) [e,it] e (λi h=>(∃old,IsEnum h e it i old)/\h.IsListIter it l i) where
 mem:=by simp
 obj:=λi h g b r=>by
  obtain⟨⟨old,a⟩,⟨o1,T,c1,d1⟩⟩:=g;simp only[MO,List.not_mem_nil,or_false]at r;rcases r with rfl | rfl
  ·exact⟨_,a,λv q=>by cases q⟩
  ·exact⟨_,T,λv q=>by rw[d1]at q;cases q⟩
 keep:=λi h U g n=>by
  obtain⟨⟨old,a⟩,h1⟩:=g;exact⟨⟨old,n e (by simp) _ a⟩,h1.at λo e'=>n it (by simp) o e'⟩
 item:=by
  intro X R L S j i y s σ H E I hf g hg;subst R L S;obtain⟨Y,x,B,J⟩:=hg;obtain⟨D,C,p,hz⟩:=I.list B;obtain⟨u,hu,Z⟩:=C.get J;obtain⟨⟨old,a⟩,h1⟩:=g;obtain⟨o1,T,_⟩:=id h1;refine wpAny_pyNext_enum_item a h1 p.isList (x:=u) (by simpa using hu) hei λU a1 a2 a3 a4 n=>?_;refine⟨_,rfl,wpAny_letOwnedTupleGo_enum a1 λh2 O k=>?_⟩;have m:H s.heap.objs.size=none:=I.hok.fresh (MW _);have lt:∀{c o},s.heap.get? c=some o->s.heap.objs.size≠c:=λe=>Nat.ne_of_gt (MZ e);have kk:∀c o,c∉[e,it]->s.heap.get? c=some o->h2.get? c=some o:=λc o j q=>
   k.extBut _ _ (λz=>j (by simp[z])) (n c o (λz=>j (by simp[z])) (λz=>j (by simp[z])) q)
  have hT:h2.get? s.heap.objs.size=some {cls:=.type "tuple",data:=.seq #[.int i s.toks,u]}:=k.extBut _ _ (lt a) a3;refine⟨.ref s.heap.objs.size,ay H s.heap.objs.size (.tup [.int i,x]),I.movedT (tk:=s.toks+1) hf kk (MW _) ⟨show 2<=sizeLine from by decide +kernel,[.int i s.toks,u],.cons ⟨_,rfl⟩ (.cons Z .nil),_,hT,rfl,_,rfl⟩,rfl,
   ⟨_,x,rfl,m,rfl,λzs G=>by rw[I.list_inj G B];exact J⟩,⟨⟨u,by simpa using O⟩,a2.extBut k.extBut (Ne.symm hei)⟩,λb r=>?_⟩
  have M:b≠s.heap.objs.size:=by
   simp only[MO,List.not_mem_nil,or_false]at r;rcases r with rfl | rfl
   ·exact(lt a).symm
   ·exact(lt T).symm
  rw[ao M];exact(hf b r).1
 done:=by
  intro X R L S j i y s σ H E I hf g hg;subst R L S;obtain⟨Y,B,J⟩:=hg;obtain⟨D,C,p,hz⟩:=I.list B;obtain⟨⟨old,a⟩,h1⟩:=g;have l1':=C.length;refine wpAny_pyNext_enum_end (I.ok.hd j) a h1 p.isList (by simp;omega) λU n=>⟨rfl,I.moved (tk:=s.toks) hf λc o j e=>n c o (λq=>j (by simp[q])) e⟩
 self:=λ_ _ _ _ _ g h=>let ⟨⟨_,a⟩,_⟩:=g;wpAny_pyIter_enum a h
section
variable {X:Cx}{elts:NK}{x1:Nat}{tp:Pos}
def EU(K:Nu)(ta:TA):TI:=λσ H R=>ta σ H λvs H1=>∃a xs,vs=[.ref a]/\aW K H1 a xs/\R (JG K a) H1
theorem qa{a:Expr}{ta:TA}{p pos:Pos}(hg:Gl X "enumerate")(hm:X.mg "enumerate"=none)(ha:PA X [a] ta)(hs:autoParam (starEach [a] X.env=[(false,eval a X.env)]) zz0._auto_1):PI X (.Tuple elts x1 tp) (.Call (.Name "enumerate" p) [a] [] pos) (EU X.K ta):=by
 intro c s σ H R I h;refine Call_ (fC I hg hm boot_enumerate (PyProof.Rows.callWith_type1 (bV (ha pos c s σ H _ I h) λus g ⟨vs,o,k,w,x⟩=>?_) (by rw[hs];rfl) (by rfl)));obtain⟨l,xs,rfl,B,q⟩:=x;obtain⟨u,rfl,v⟩:=w.one;cases v;obtain⟨its,rv,y,_⟩:=k.list B;refine call_enumerate_list y.isList λD m r z3 C=>?_;have G:Inv X c σ o {g with heap:=D }:=k.kept (t':=g.toks) C;refine wpAny_pyIter_enum m ?_;refine⟨g.heap.objs.size+1,[g.heap.objs.size+1,g.heap.objs.size],_,_,o,rfl,G,B3 (l:=l) (Nat.ne_of_gt (M8 _)),⟨⟨_,m⟩,r⟩,λb n=>?_,q⟩;have j:g.heap.objs.size<=b:=by
  simp only[MO,List.not_mem_nil,or_false]at n;rcases n with e | e<;>(rw[e];first | exact MW _ | exact Nat.le_add_right _ _)
 exact k.fpOk j (k.hok.fresh j)
end
section
variable {K:Nu}{g:TG}{tb:TS}{D:iJ}{σ:St}{H:Hp}
theorem kO{xs:List V}(Pv:Nat->St->Hp->Prop)(h0:Pv 0 σ H)(hl:∀i σ H,i<=xs.length->Pv i σ H->aW K H a xs)
  (hs:∀(i:Nat) x σ H T,xs[i]?=some x->Pv i σ H->H T=none->g (.ref T) σ (ay H T (.tup [.int (i:Int),x])) λσ2 H2=>tb {D with nx:=Pv (i+1),ct:=Pv (i+1),bk:=D.nx} σ2 H2) (hd:∀σ H,Pv xs.length σ H->D.nx σ H):vW (JG K a) g tb D σ H:=by
 refine⟨λi m σ H=>m=xs.length-i/\i<=xs.length/\Pv i σ H,⟨xs.length,by simp,MX _,h0⟩,?_⟩;rintro i m σ H ⟨rfl,c,p⟩;have q:=hl i σ H c p
 by_cases b:i<xs.length
 ·refine .inr ⟨⟨xs,xs[i],q,by simp[b]⟩,Pv (i+1),λσ' k p'=>⟨xs.length-(i+1),⋯,rfl,b,p'⟩,λx k y=>?_⟩
  obtain⟨T,x,rfl,j,rfl,y⟩:=y;exact hs i x σ _ T (y xs q) p j
 ·have e:i=xs.length:=by omega
  subst e;exact .inl ⟨⟨xs,q,MW _⟩,hd σ H p⟩
end
end L2
namespace PySem
open Sem (wp)
section
variable {M:Model}{A:NG}{E:Nt}{env:Env}
variable {nm q:Str}{C N:Addr}{bs bm:Nz}{hdct:Bool}{sn:NF}{sub:Nz}{ab:Bool}{col:Option Bool}{dd:NJ}{k0 k1 k2 k3 k5:Option Value}{newId:String}
theorem sr{Q:Flow->Shared->Prop}(hbase:bm.contains (.type "BaseException")=true)(hh:A.handled=none)
  (h:wpAny M A x (λv s₁=>∃e oe vs,v=.ref e/\s₁.heap.get? C=some (excClassObj nm q C N bs bm hdct sn sub ab col dd k0 k1 k2 k3 k5 newId)/\s₁.heap.get? e=some oe/\oe.cls=.ref C/\oe.data=.fields vs/\vs[1]?=some .none/\E (.ref e) s₁) E s) :
  wpAny M A (raiseStmt env (some x) none) Q E s:=by
 have a:(Value.ref C::bm).contains (.type "BaseException")=true:=by rw[List.contains_cons,hbase,Bool.or_true]
 unfold raiseStmt;refine q04 (q0S h (λv s₁ k=>?_) λ_ _ x=>x);obtain⟨e,⟨oc,od,dt,sl⟩,vs,rfl,j,m,c,b,l,n⟩:=k;dsimp only at c b;subst c b;obtain⟨hp,g,d,tk,os⟩:=s₁
 repeat (first | with_reducible refine wpAny_loadPart_at m ?_ | with_reducible refine wpAny_loadPart_at j ?_ | (with_reducible refine wpAny_isSubtype_exc j ?_;rw[a]) | wp_step)
 rw[l];refine q05 ?_;rw[q06 nofun];exact q05 (wpAny_raiseNew_none hh n)
end
section
variable {prog:NE}{w:NH}{A:NG}{E:Nt}{h:Heap}{g:Array GenState}{d:Drawn}{t:Nat}{os:OsState}
variable {nm q:Str}{C N:Addr}{bs bm bmB:Nz}{hdct:Bool}{sn:NF}{sub:Nz}{ab:Bool}{col:Option Bool}{dd:NJ}{k0 k1 k2 k3 k5:Option Value}{B Bn newId nid initId inN:String}{bmN:Nz}{K:Nu}
theorem ly(Fn:ExcBaseFacts Bn newId inN bmN)(hBn:bmB.contains (.type Bn)=true)(F:ExcBaseFacts B nid initId bmB)(T:OwnTail h bmB bm)(X:K.In h){cP:Nz}{fI:Addr}{Q:Fin->Shared->Prop}
  (hC:h.get? C=some (excClassObj nm q C N bs bm hdct sn sub ab col dd k0 k1 k2 k3 k5 newId)) (hi:PySem.W.findIn K (.ref C) "__init__"=some (some (.ref fI))) (hf:PySem.W.typeIn K (.ref fI)=some (.type "function"))
  (hq:∀h' e,Heap.MadeExcOf h h' e (.ref C) cP ->
   wpAny (model prog w) A (call (.ref fI) (.ref e::cP)) (λr s'=>r=.none/\Q (.done (.ret (.ref e))) s') E ⟨h',g,d,t,os⟩) (hrest:cP.length<=sizeLine) :
  wpAny (model prog w) A (Builtin.«type.__call__» ⟨.ref C::cP,[]⟩) Q E ⟨h,g,d,t,os⟩:=by
 repeat (first | with_reducible refine wpAny_loadPart_at hC ?_ | with_reducible refine wpAny_madeBy_exc hC ?_ | wp_step)
 refine codeAny_call_builtin_code (Code.quiet_builtin _ Fn.quiet) (wpAny_check_new_subU Fn hBn T hC ?_);refine codeAny_exc_new_subU Fn hBn F T hC ?_ hrest;show wpAny _ _ _ _ _ _;have j:=Mz {cls:=.ref C,data:=.fields #[.ref h.objs.size,.none,.none,.none,.bool false,.none]}
  (Mz {cls:=.type "tuple",data:=.seq cP.toArray} hC)
 have a:((h.push {cls:=.type "tuple",data:=.seq cP.toArray}).push
   {cls:=.ref C,data:=.fields #[.ref h.objs.size,.none,.none,.none,.bool false,.none]}).get? (h.objs.size+1)=some
   {cls:=.ref C,data:=.fields #[.ref h.objs.size,.none,.none,.none,.bool false,.none]}:=by heap_get
 have c:(Value.ref C::bm).contains (.ref C)=true:=by simp
 have k:K.In ((h.push {cls:=.type "tuple",data:=.seq cP.toArray}).push {cls:=.ref C,data:=.fields #[.ref h.objs.size,.none,.none,.none,.bool false,.none]}):=
  X.keeps λb o e=>Mz _ (Mz _ e)
 unfold isInstance
 repeat (first | with_reducible refine wpAny_loadPart_at a ?_ | (with_reducible refine wpAny_isSubtype_exc j ?_;rw[c]) | wp_step)
 show wpAny _ _ (typeLookup (.ref C) _) _ _ _;refine(PySem.W.looks_findIn k hi).at ?_;refine q0T (q04 ((PySem.W.bind_fn k _ hf).at ?_));refine q04 (q0S (hq _ (h.objs.size+1) ⟨λb o l=>Mz _ (Mz _ l),Heap.get?_none_of_le (Nat.le_succ _),h.objs.size,a,Heap.get?_none_of_le (MW _),?_⟩) (λr s' hr=>?_) λ_ _ x=>x)
 ·exact Mz _ (Heap.get?_push_at rfl rfl)
 ·obtain⟨rfl,m⟩:=hr
  wp_walk
  exact m
theorem rQ(Fn:ExcBaseFacts Bn newId inN bmN)(hBn:bmB.contains (.type Bn)=true)(F:ExcBaseFacts B nid initId bmB)(T:OwnTail h bmB bm)(X:K.In h){cP:Nz}{fI:Addr}{Q:Nt}
  (hC:h.get? C=some (excClassObj nm q C N bs bm hdct sn sub ab col dd k0 k1 k2 k3 k5 newId)) (hi:PySem.W.findIn K (.ref C) "__init__"=some (some (.ref fI))) (hf:PySem.W.typeIn K (.ref fI)=some (.type "function"))
  (hq:∀h' e,Heap.MadeExcOf h h' e (.ref C) cP ->
   wpAny (model prog w) (A.under (.builtin "type.__call__" ⟨.ref C::cP,[]⟩)) (call (.ref fI) (.ref e::cP)) (λr s'=>r=.none/\Q (.ref e) s') E ⟨h',g,d,t,os⟩) (hrest:cP.length<=sizeLine) :
  wpAny (model prog w) A (call (.ref C) cP) Q E ⟨h,g,d,t,os⟩:=by
 have f1:=tc_lookup;have f2:=tc_bind (.ref C);have hT:(⟨h,g,d,t,os⟩:Shared).TypeIs (.ref C) "type":=⟨_,hC,rfl⟩;refine wpAny_call (codeAny_of_tree ?_);show wpAny _ _ (callAny (.ref C) _) _ _ _
 repeat (any_goals (first | assumption | with_reducible refine wpAny_loadPart_at hC ?_ | wp_step))
 refine⟨rfl,?_⟩;refine codeAny_call_builtin_at (Code.quiet_builtin _ (by decide +kernel)) entry_typeCall (wpAny_check_type_call_sub hC (ly (hrest:=hrest) Fn hBn F T X hC hi hf λh' e a=>?_));exact hq h' e a
end
section
variable {prog:NE}{w:NH}{A:NG}{E:Nt}{s:Ny}{env:Env}
variable {nm q:Str}{C N:Addr}{bs bm bmB:Nz}{hdct:Bool}{sn:NF}{sub:Nz}{ab:Bool}{col:Option Bool}{dd:NJ}{k0 k1 k2 k3 k5:Option Value}{B Bn newId nid initId inN:String}{bmN:Nz}{K:Nu}
theorem oN(Fn:ExcBaseFacts Bn newId inN bmN)(hBn:bmB.contains (.type Bn)=true)(F:ExcBaseFacts B nid initId bmB){x:Str}{np cpos pos:Pos}{args:NK}{fI:Addr}{Q:Flow->Shared->Prop}
  (hbase:bm.contains (.type "BaseException")=true) (hh:A.handled=none) (hplain:(backTo cpos (starEach args env)).any (·.1)=false) (hi:PySem.W.findIn K (.ref C) "__init__"=some (some (.ref fI))) (hf:PySem.W.typeIn K (.ref fI)=some (.type "function"))
  (h:wpAny (model prog w) A (eval (.Name x np) env) (λf s₁=>f=.ref C/\wpAny (model prog w) A (evalArgs (.ref C) true (backTo cpos (starEach args env)) [])
   (λa s₂=>a.kw=[]/\a.pos.length<=sizeLine/\s₂.heap.get? C=some (excClassObj nm q C N bs bm hdct sn sub ab col dd k0 k1 k2 k3 k5 newId)/\K.In s₂.heap/\OwnTail s₂.heap bmB bm /\
    ∀h' e,Heap.MadeExcOf s₂.heap h' e (.ref C) a.pos->wpAny (model prog w) (A.under (.builtin "type.__call__" ⟨.ref C::a.pos,[]⟩)) (call (.ref fI) (.ref e::a.pos))
     (λr s'=>r=.none/\∃oe vs,s'.heap.get? C=some (excClassObj nm q C N bs bm hdct sn sub ab col dd k0 k1 k2 k3 k5 newId)/\s'.heap.get? e=some oe/\oe.cls=.ref C/\oe.data=.fields vs/\vs[1]?=some .none/\E (.ref e) s') E {s₂ with heap:=h' }) E s₁) E s) :
  wpAny (model prog w) A (exec (.Raise (some (.Call (.Name x np) args [] cpos)) none pos) env) Q E s:=by
 rw[arm_exec_Raise];simp only[evalOpt,Option.map];refine q04 (wpAny_standAt (sr (C:=C) (nm:=nm) (q:=q) (N:=N) (bs:=bs) (bm:=bm) (hdct:=hdct) (sn:=sn) (sub:=sub) (ab:=ab) (col:=col) (dd:=dd) (k0:=k0) (k1:=k1) (k2:=k2) (k3:=k3) (k5:=k5) (newId:=newId) hbase hh (q04 (q0S (wpAny_Call_ofName (q0S h (λf s₁ j=>?_) λ_ _ x=>x)) (λv s₃ n=>q04 (wpAny_standAt (q05 n))) λ_ _ x=>x))));obtain⟨rfl,j⟩:=j;unfold callWith;refine q04 (q0T (q0S j (λa s₂ c=>q04 (wpAny_standAt ?_)) λ_ _ x=>x));obtain⟨apos,l⟩:=a;obtain⟨k,b,m,p,T,c⟩:=c;obtain rfl:l=[]:=k;obtain⟨hp,g,d,tk,os⟩:=s₂;simp only[hplain];refine q04 (wpAny_keeperOf_exc m ?_);refine q04 (rQ (hrest:=b) Fn hBn F T p m hi hf λh' e o=>q0S (c h' e o) (λr s' hr=>⟨hr.1,q04 (q0T (wpAny_point (q05 ?_)))⟩) λ_ _ x=>x);obtain⟨_,oe,vs,J,I,G,D,y,u⟩:=hr;exact⟨e,oe,vs,rfl,J,I,G,D,y,u⟩
end
end PySem
namespace PySem.W
open PySem PySem.Spec PySem.Calls PyProof.Rows
open Builtin Builtin.ObjectAttr
def excOut(K:Frag)(C:Addr)(bmB:Nz)(newId:String):Bool:=match K.lookup C with
 |some ⟨.type "type",_,.cls cd,sl⟩=>(match cd.mro,sl.toList with
  | .ref C'::bm,[_,_,_,_,some (.builtin n),_]=>C'==C&&n==newId && !cd.hasDel&&tailIn K bmB bm&&nsOkIn K cd.ns
  |_,_=>false)
 |_=>false
def strip:List Value->List Value
 | .ref _::r=>strip r
 |l=>l
theorem mM(self:Value):∀{l bm:Nz},strip l=bm->refuseLoop self "__setattr__" bm=pure ()->refuseLoop self "__setattr__" l=pure ()
 | [],_,e,h=>by rw[show([]:List Value)=_ from e];exact h
 | .ref c::r,_,e,h=>by rw[refuseLoop_ref];exact mM self (l:=r) e h
 | .type n::r,_,e,h=>by rw[show(Value.type n::r)=_ from e];exact h
 | .none::r,_,e,h=>by rw[show(Value.none::r)=_ from e];exact h
 | .bool b::r,_,e,h=>by rw[show(Value.bool b::r)=_ from e];exact h
 | .int i t::r,_,e,h=>by rw[show(Value.int i t::r)=_ from e];exact h
 | .float i t::r,_,e,h=>by rw[show(Value.float i t::r)=_ from e];exact h
 | .str i t::r,_,e,h=>by rw[show(Value.str i t::r)=_ from e];exact h
 | .bytes i t::r,_,e,h=>by rw[show(Value.bytes i t::r)=_ from e];exact h
 | .builtin n::r,_,e,h=>by rw[show(Value.builtin n::r)=_ from e];exact h
 | .ellipsis::r,_,e,h=>by rw[show(Value.ellipsis::r)=_ from e];exact h
 | .notImplemented::r,_,e,h=>by rw[show(Value.notImplemented::r)=_ from e];exact h
structure XSt(K:Frag)(C:Addr)(f:Str):Prop where
 sa:findIn K (.ref C) "__setattr__"=some (some (.builtin "object.__setattr__"))
 st:∃cd,clsIn K C=some cd/\strip cd.mro=[.type "ValueError",.type "Exception",.type "BaseException",.type "object"]/\cd.hasDict=true/\cd.mro.contains (.type "object")=true/\cd.mro.isEmpty=false
 no:findIn K (.ref C) f=some none
section
variable {prog:NE}{w:NH}{A:NG}{E:Nt}{s:Ny}{K:Frag}{x C:Addr}{ox:Obj}{vs:Array Value}{name:Str}{v:Value}
theorem set_new{Q:Unit->Shared->Prop}(X:K.In s.heap)(c:XSt K C name)(hx:s.heap.get? x=some ox)(hcl:ox.cls=.ref C)(hdn:ox.dict=none)(hdt:ox.data=.fields vs)
  (h:∀h' t',(∀b o,b≠x->s.heap.get? b=some o->h'.get? b=some o)->h'.get? x=some {ox with dict:=some s.heap.objs.size}->h'.Ns1 s.heap.objs.size (λy=>if y=name then some v else none)->Q () {s with heap:=h',toks:=t' }) :
  wpAny (model prog w) A (setAttr (.ref x) name v) Q E s:=by
 obtain⟨Y,M,p,D,q,u⟩:=c.st;obtain⟨oc,od,dt,O⟩:=ox;dsimp only at hcl hdn hdt;subst hcl hdn hdt;have J:InstAt s.heap x ⟨.ref C,none,.fields vs,O⟩ C none:=⟨hx,rfl,rfl,trivial⟩;obtain⟨a,g,d,t,os⟩:=s;have m:=PySem.F.store_object;refine set_plain X J c.sa ?_;have n:Looks (model prog w) a (isInstance (.ref x) (.type "object")) true:=J.type.andThen (looks_mroIn X (by unfold mroIn;rw[M,Option.bind_some,q06 (by rw[u];decide),q]));refine codeAny_call_builtin m.slot.plain m.entry (@check_slot (model prog w) _ _ _ "object.__setattr__" "object" "__setattr__" (.ref x) [.str name t,v] [] _ m.kind m.split n (m.args (.ref x) (.str name t) v) ?_);have S:Looks (model prog w) a (mroOf (.ref C)) Y.mro:=(looks_clsIn X M).andThen .now;rw[osa_eq,refuse_eq];refine q04 (q04 (J.type.at (q04 (S.at ?_))));rw[mM _ p (PySem.F.store_ValueError.passes _)];refine q05 (q04 (J.type.at (q04 ((looks_findIn X c.no).at (q04 (q05 ?_))))));have j:(a.push {cls:=.type "dict",data:=.dict #[]}).get? x=some ⟨.ref C,none,.fields vs,O⟩:=Mz _ hx;have k:x≠a.objs.size:=MS (MZ hx);show wpAny _ _ (storeInOwnDict (.ref x) (.ref C) (.str name t) name v false) _ _ _;refine q04 (q05 (q04 (q04 (wpAny_loadPart hx ?_))));refine q04 ((looks_clsIn X M).at ?_);rw[q06 (by rw[D];decide)];dsimp only;rw[q06 (by simp[typeHasDict])];refine q04 (wpAny_alloc' ?_);refine q04 (wpAny_update' j ?_);refine q05 ?_;have G:((a.push {cls:=.type "dict",data:=.dict #[]}).update x λo=>{cls:=o.cls,dict:=some a.objs.size,data:=o.data,slots:=o.slots}).get? a.objs.size
   = some {cls:=.type "dict",data:=.dict #[]}:=
  (Heap.get?_update_ne _ _ _ _ k.symm).trans (Heap.get?_push_at rfl rfl)
 have B:((a.push {cls:=.type "dict",data:=.dict #[]}).update x λo=>{cls:=o.cls,dict:=some a.objs.size,data:=o.data,slots:=o.slots}).Ns a.objs.size (λ_=>none):=
  ⟨_,#[],_,G,rfl,λe T=>q0N T (by simp),λ_=>rfl⟩
 show wpAny _ _ (storeInDict a.objs.size (.str name t) name v) _ _ _;unfold storeInDict newKeyGuard;refine q04 (q05 (q04 (wpAny_nsSet1 (Heap.Ns1.of_empty B) λh' l R=>?_)));obtain⟨oD,esD,epD,r,I,L⟩:=l.count (Within.cons name v Within.nil);refine q04 (wpAny_lookBehind r (by rw[I];exact pastItsLine_dict (M6 L (by rw[MK,List.length_nil,q0R];omega))) ?_);refine q05 (h h' _ (λb o U e=>(R.2 b (MS (MZ e))).trans ((Heap.get?_update_ne _ _ _ _ U).trans (Mz _ e))) ?_ l);exact(R.2 x k).trans (MJ _ j rfl)
end
end PySem.W
namespace L2
open PySem PySem.Spec PyProof.Rows
structure ju(K:Nu)(C:Addr)(bmB:Nz)(newId:String):Prop where
 exc:PySem.W.excOut K C bmB newId=true
set_option tactic.hygienic true in
theorem ju.obj{K:Nu}{bmB:Nz}{newId:String}(c:ju K C bmB newId)(X:K.In h):∃bm N nm q bs hdct sn sub ab col dd k0 k1 k2 k3 k5,
  h.get? C=some (excClassObj nm q C N bs bm hdct sn sub ab col dd k0 k1 k2 k3 k5 newId)/\OwnTail h bmB bm/\∃dd' cd sl,K.lookup C=some ⟨.type "type",dd',.cls cd,sl⟩/\cd.mro=.ref C::bm:=by
 have q:=c.exc;unfold PySem.W.excOut at q;cases hl:K.lookup C with
 |none=>rw[hl]at q;cases q
 |some ob=>
  rw[hl]at q
  split at q
  ·rename_i dd cd sl e
   cases e
   split at q
   ·rename_i C' bm k0 k1 k2 k3 n k5 hm hs
    simp only[q0L,beq_iff_eq,Bool.not_eq_true']at q;obtain⟨⟨⟨⟨rfl,rfl⟩,hdel⟩,ht⟩,hok⟩:=q;have ho:=X _ _ hl;have hsl:sl=#[k0,k1,k2,k3,some (.builtin n),k5]:=Array.toList_inj.mp hs;subst hsl;obtain⟨nm,bs,mro,ns,qn,hd,sn,sub,ab,col,del⟩:=cd;dsimp only at hm hdel hok ho;subst hm hdel;exact⟨bm,ns,nm,qn,bs,hd,sn,sub,ab,col,dd,k0,k1,k2,k3,k5,ho,PySem.W.tail_of_in X ht,dd,_,_,rfl,rfl⟩
   ·cases q
  ·cases q
def HW(ea:Addr)(cls:Value)(od:NJ)(h:Heap):Prop:=∃o vs,h.get? ea=some o/\o.cls=cls/\o.dict=od/\o.data=.fields vs/\vs[1]?=some .none/\vs[2]?=some .none/\vs.size=6
abbrev xn(ea:Addr)(cls:Value)(od:NJ):HO:=.ext (HW ea cls od)
theorem uy{ea:Addr}{cls:Value}{od:NJ}:∀h1 h2:Heap,HW ea cls od h1->(∀o,h1.get? ea=some o->h2.get? ea=some o)->HW ea cls od h2:=
 λh1 h2 ⟨o,ws,e1,e2,e3,e4,e5⟩ k=>⟨o,ws,k o e1,e2,e3,e4,e5⟩
section
variable {X:Cx}{o value:Expr}{f:Str}{pos pos':Pos}{ta tv:TE}
def Dk(K:Nu)(ta tv:TE)(f:Str):TS:=λD σ H=>tv σ H λy H1=>ta σ H1 λx H2=>∃a C,x=.ref a/\H2 a=some (xn a (.ref C) none)/\PySem.W.XSt K C f /\
 ∀d,H2 d=none->D.nx σ (ay (ay H2 d (.xd [(f,y)])) a (xn a (.ref C) (some d)))
theorem AB(ha:PE X o ta)(hv:PE X value tv)(hs:swapsWith value (some (.Attribute o f pos')) pos.line X.env=pure false):PS X (.Assign [.Attribute o f pos'] value pos) (Dk X.K ta tv f):=by
 intro j s σ H D I h;refine plainObj_wpAny_Assign_Attribute (bV (hv j s σ H _ I h) λu S ⟨y,H1,I1,T,q⟩=>bV (ha j S σ H1 _ I1 q) λov l ⟨x,L,r,U,a,C,ex,M,c,Y⟩=>?_) hs;subst ex;obtain rfl:ov=Value.ref a:=U;obtain⟨⟨n,R,J,O,e3,G,e5⟩,_,_⟩:=(show bM X.prog X.w L l.heap a (xn a (.ref C) none) from r.hok a _ M);refine PySem.W.set_new r.kIn c J O e3 G λh' t' hk p hn=>?_;have B:L l.heap.objs.size=none:=r.hok.fresh (MW _);have m:l.heap.objs.size≠a:=Nat.ne_of_gt (MZ J);have Z:(h'.update a λ_=>n).get? a=some n:=MJ _ p (Obj.isFreed_of_fields G);have v:∀b,b≠a->(h'.update a λ_=>n).get? b=h'.get? b:=λb k=>ME _ _ (Ne.symm k);have I3:Inv X j σ (ay L l.heap.objs.size (.xd [(f,y)])) {l with heap:=h'.update a λ_=>n,toks:=t' }:=r.laid (λb u z=>by
   by_cases k:b=a
   ·subst k;rw[J]at z;cases z;exact Z
   ·rw[v b k];exact hk b u k z) (MW _) ⟨_,hn.at λo z=>(v _ m).trans z,λg=>?_⟩
 ·have I4:=I3.write (x:=a) (e:=a) (o:=xn a (.ref C) (some l.heap.objs.size)) (h':=h') (t':=t') (by rw[ao (Ne.symm m),M];exact True.intro) (.inl rfl) (λb u k z=>by rw[<- v b k];exact z) ⟨_,p⟩ ⟨⟨_,R,p,O,rfl,G,e5⟩,⟨_,p⟩,uy⟩
  exact⟨σ,_,I4,Y _ B⟩
 ·show jK (List.lookup g [(f,y)]) (if g=f then some u else none)
  by_cases z:g=f
  ·have k:(g==f)=true:=beq_iff_eq.mpr z
   simp only[List.lookup,k,q07 z];exact T
  ·have k:(g==f)=false:=beq_eq_false_iff_ne.mpr z
   simp only[List.lookup,k,q06 z];exact True.intro
end
def nr(C:Addr)(fn:Str):Sp:=λvs H Q _=>∃a v,vs=[.ref a,v]/\H a=some (xn a (.ref C) none)/\∀d,H d=none->Q .non (ay (ay H d (.xd [(fn,v)])) a (xn a (.ref C) (some d)))
def v5(H:Hp)(e:Addr):Hp:=λb=>if b=e then none else H b
theorem gu{e b:Addr}(h:b≠e):v5 H e b=H b:=by unfold v5;rw[q06 h]
theorem kW:v5 H e e=none:=by unfold v5;rw[q07 rfl]
def DU(X:Cx)(E:XK):Prop:=∀(pins:Nv) (σ:St) (H2:Hp) (s2:Ny) (hm:Heap) (H3:Hp) (s3:Ny) (e C:Addr) (od:NJ),Inv X pins σ H2 s2->Inv X pins σ H3 s3->s2.heap.get? e=none ->
 (∀b o,s2.heap.get? b=some o->hm.get? b=some o)->Un (lS X.stack) [] (ay H2 e (xn e (.ref C) none)) H3 hm s3.heap->s3.os=s2.os->H3 e=some (xn e (.ref C) od)->E (.ref C) od (v5 H3 e)->X.xe (.ref e) s3
section
variable {P:NE}{w:NH}{K:Nu}{mg:NC}{base:Heap}{N:NF}{qual:Str}{scope:Scope}{f:Addr}{cd:Value}{A:NG}{outer:List Env}{s:Ny}{H:Hp}{E E1:XK}
theorem eC(hE:∀c d H',E1 c d H'->E c d H'):DU (gS (bG P w) P w K mg base N qual scope f cd A outer s H E) E1:=by
 intro pins σ H2 s2 r H3 s3 e C od I2 I3 new keep un os3 he3 q;obtain⟨⟨oe,vs,U,T,S,R,J⟩,_,_⟩:=(show bM P w H3 s3.heap e (xn e (.ref C) od) from I3.hok e _ he3);have ne:∀b o,s2.heap.get? b=some o->b≠e:=λb o z y=>by rw[y,new]at z;cases z
 have k:H2 e=none:=by
  cases z:H2 e with
  |none=>rfl
  |some o=>
   obtain⟨I,j⟩:=(I2.hok e o z).there;rw[new]at j;cases j
 have B:∀l∈(gS (bG P w) P w K mg base N qual scope f cd A outer s H E).stack,∀b,l.frame=some b->b∈e::lS (gS (bG P w) P w K mg base N qual scope f cd A outer s H E).stack:=λl O b a=>.tail _ (List.mem_filterMap.mpr ⟨l,O,a⟩);have D:=PySem.W.funFrames_hide I3.stack B;have u:∀b,b≠e->H2 b=none->ay H2 e (xn e (.ref C) none) b=none:=λb a n=>by rw[ao a];exact n
 have g:Fly0 P w (gS (bG P w) P w K mg base N qual scope f cd A outer s H E).stack H2 s2 (PySem.W.hideAll s3.heap (e::lS (gS (bG P w) P w K mg base N qual scope f cd A outer s H E).stack)) (v5 H3 e) s3:=by
  refine⟨λb o z=>PySem.W.of_hideAll _ z,D,⟨λb o z n a _=>un.keep b o (keep b o z) (u b (ne b o z) n) a (by simp),λb o z n a _=>un.slot b o (keep b o z) (u b (ne b o z) n) a (by simp),λb o z n _=>?_,λb o z _=>un.there b o (keep b o z) (by simp),λb G z=>?_,λb o y z=>?_,λb ps z=>?_⟩,λb o z=>?_,λb o z=>?_,λb o z a=>?_,os3,I3.bare⟩
  ·rw[gu (ne b o z)]
   exact un.free b o (keep b o z) (u b (ne b o z) n) (by simp)
  ·have a:b≠e:=aI z k
   rw[gu a];exact un.tups b G (by rw[ao a];exact z)
  ·have a:b≠e:=aI z k
   rw[gu a];exact un.frzs b o y (by rw[ao a];exact z)
  ·have a:b≠e:=aI z k
   rw[gu a];exact un.tbls b ps (by rw[ao a];exact z)
  ·have a:b≠e:=λy=>by rw[y,kW]at z;cases z
   rw[gu a]at z;exact(I3.hok b o z).stay (λ_ _ _ y=>y) (λc y=>by rw[gu (λx=>by rw[x,he3]at y;cases y)];exact y) λc G y=>by rw[gu (λx=>by rw[x,he3]at y;cases y)];exact y
  ·have a:b≠e:=λy=>by rw[y,kW]at z;cases z
   rw[gu a]at z;obtain⟨I,j⟩:=(I3.hok b o z).there;refine⟨I,PySem.W.hideAll_get _ j λr=>?_⟩;rcases MO.mp r with y | y
   ·exact a y
   ·rw[I3.stkFree b y]at z;cases z
  ·obtain⟨M,L⟩:=un.there b o (keep b o z) (by simp)
   refine⟨M,PySem.W.hideAll_get _ L λr=>?_⟩;rcases MO.mp r with y | y
   ·exact ne b o z y
   ·exact a y
 have m:(PySem.W.hideAll s3.heap (e::lS (gS (bG P w) P w K mg base N qual scope f cd A outer s H E).stack)).get? e=none:=PySem.W.hideAll_none _ (q0B ..);refine Al (cp:=λv=>v=.none) (s:=s3) I3.ok.frames g.ff rfl U g.st m R J.1 ⟨_,J.2.1,rfl⟩ λh' p up=>?_;rw[T,S]at p;exact⟨e,.ref C,od,_,v5 H3 e,rfl,Fly0.up I2 rfl rfl rfl rfl rfl g p up,kW,hE _ _ _ q⟩
end
structure XI(P:NE)(w:NH)(K:Nu)(mg:NC)(base:Heap)(k:Nat)(C:Addr)(fn:Str):Prop where
 ex:∃(bm bmN:Nz) (newId Bn inN B nid initId:String) (fI:Addr) (fd:ND) (ps:NF),ju K C bm newId/\ExcBaseFacts Bn newId inN bmN/\bm.contains (.type Bn)=true/\ExcBaseFacts B nid initId bm /\
  PySem.W.findIn K (.ref C) "__init__"=some (some (.ref fI))/\PySem.W.typeIn K (.ref fI)=some (.type "function")/\↑aS k fI fd ps (nr C fn)/\cq K fd ps []
section
variable {X:Cx}{x:Str}{np cpos pos:Pos}{e₀:Expr}{t:TA}{C:Addr}{fn:Str}{k:Nat}{E:XK}
def vh(C:Addr)(fn:Str)(E:XK)(t:TA):TS:=λ_ σ H=>t σ H λvs H1=>vs.length<=sizeLine/\∃v,vs=[v]/\∀d,H1 d=none->E (.ref C) (some d) (ay H1 d (.xd [(fn,v)]))
theorem d8(c:XI X.prog X.w X.K X.mg X.base k C fn)(hr:dv (k+1) X.A)(hc:X.calm=true)(hg:Gl X x)(hm:X.mg x=some (.ref C))(hx:DU X E)(ha:PA X [e₀] t)
  (hd:autoParam ((x==("__debug__":Str))=false) zz2._auto_1) (he:autoParam (starEach [e₀] X.env=(false,eval e₀ X.env)::starEach [] X.env) zz0._auto_1) (hpl:autoParam ((backTo cpos (starEach [] X.env)).any (·.1)=false) zz0._auto_1) :
  PS X (.Raise (some (.Call (.Name x np) [e₀] [] cpos)) none pos) (vh C fn E t):=by
 obtain⟨bmB,bmN,newId,Bn,inN,B,nid,initId,fI,fd,ps,c1,c2,c3,c4,hi,hf,F,p⟩:=c.ex;intro j s σ H D I h;obtain⟨tl,N,nm,q,bs,hdct,sn,sub,ab,col,dd,k0,k1,k2,k3,k5,hC,T,_⟩:=c1.obj I.mod.kin;refine oN (K:=X.K) (fI:=fI) (C:=C) (nm:=nm) (q:=q) (N:=N) (bs:=bs) (bm:=tl) (hdct:=hdct) (sn:=sn) (sub:=sub) (ab:=ab) (col:=col) (dd:=dd) (k0:=k0) (k1:=k1) (k2:=k2) (k3:=k3) (k5:=k5)
  c2 c3 c4 (T.hasType c4.hasBase) (I.ok.hd hc) (by rw[he];show(false||(backTo cpos (starEach [] X.env)).any (·.1))=false;rw[hpl];rfl) hi hf (gm I hg hm ⟨rfl,?_⟩ hd)
 rw[he];have a2:=ha cpos j s σ H _ I h;rw[he]at a2;refine Calls.evalArgs_plain (q0S a2 (λus s₂ ⟨vs,M,G,r1,z,v,ev,q1⟩=>⟨rfl,by rw[<- r1.length];exact z,G.bk _ _ hC,G.kIn,T.keeps G.bk,λh' e a=>?_⟩) λ_ _ y=>y);subst ev;obtain⟨u,rfl,ru⟩:=r1.one;obtain⟨t0,a0,ht0,htt⟩:=a.there;have ne:∀b o,s₂.heap.get? b=some o->b≠e:=λb o z y=>by rw[y,a.new]at z;cases z
 have g:M e=none:=by
  cases z:M e with
  |none=>rfl
  |some o=>
   obtain⟨ob,Y⟩:=(G.hok e o z).there;rw[a.new]at Y;cases Y
 have Im:Inv X j σ (ay M e (xn e (.ref C) none)) {s₂ with heap:=h' }:=by
  refine G.call' (s':={s₂ with heap:=h' }) (ch:=[]) rfl ⟨λb o z _ _ _=>a.keeps b o z,λb o z _ _ _=>⟨o.slots,a.keeps b o z⟩,λb o z n _=>by rw[ao (ne b o z)];exact n,λb o z _=>⟨o,a.keeps b o z⟩,λb xs z=>by rw[ao (aI z g)];exact z,λb o y z=>by rw[ao (aI z g)];exact z,λb ps z=>⟨#[],by rw[ao (aI z g),z];simp⟩⟩ (λb o z=>?_) G.bare (λb z=>q0N z (by simp))
  by_cases p:b=e
  ·subst p
   rw[ad]at z;cases z;exact⟨⟨_,_,a0,rfl,rfl,rfl,rfl,rfl,rfl⟩,⟨_,a0⟩,uy⟩
  ·rw[ao p]at z
   exact(G.hok b o z).stay (λc u _ y=>a.keeps c u y) (λc y=>by rw[ao (aI y g)];exact y) λc xs y=>by rw[ao (aI y g)];exact y
 have S:nr C fn [.ref e,v] (ay M e (xn e (.ref C) none)) (λr H3=>r=.non/\∃d,H3 e=some (xn e (.ref C) (some d))/\E (.ref C) (some d) (v5 H3 e)) (λ_ _ _=>False):=by
  refine⟨e,v,rfl,ad,λd m=>⟨rfl,d,ad,?_⟩⟩;have a1:d≠e:=λy=>by rw[y,ad]at m;cases m
  rw[ao a1]at m;have ee:v5 (ay (ay (ay M e (xn e (.ref C) none)) d (.xd [(fn,v)])) e (xn e (.ref C) (some d))) e=ay M d (.xd [(fn,v)]):=by
   funext b
   by_cases p:b=e
   ·rw[p,kW,ao (Ne.symm a1)];exact g.symm
   ·rw[gu p,ao p]
    by_cases J:b=d
    ·rw[J,ad,ad]
    ·rw[ao J,ao p,ao J]
  rw[ee];exact q1 d m
 have hl:([Value.ref e,u]++[]).length=ps.length:=(F.len _ _ _ _ S:[V.ref e,v].length=ps.length);have r2:bo [V.ref e,v] [Value.ref e,u]:=.cons rfl (.cons ru .nil);refine wpAny_call (codeAny_mono (F.run _ X.stack _ _ ⟨[.ref e,u],[]⟩ [.ref e,u] _ _ _ (hr.make C [u] []) (Im.env0.make C [u] []) (p _ [Value.ref e,u] Im.kIn hl) r2 S) λr s' l=>?_);cases r with
 |error ev=>exact False.elim l
 |ok fl=>
  cases fl with
  |ret u'=>
   obtain⟨v',H3,R,L,O,U,rv,ev,d,Z,qE⟩:=l;subst ev;have I3:=Im.call' (ch:=[]) R O U L (λb z=>q0N z (by simp));obtain⟨⟨oe,ws,g1,g2,g3,g4,g5⟩,_,_⟩:=(show bM X.prog X.w H3 s'.heap e (xn e (.ref C) (some d)) from I3.hok e _ Z);exact⟨rv,oe,ws,I3.bk _ _ hC,g1,g2,g4,g5.1,hx j σ M s₂ h' H3 s' e C (some d) G I3 a.new a.keeps O R Z qE⟩
  |next=>exact False.elim l
  |brk=>exact False.elim l
  |cont=>exact False.elim l
end
def Fq(H:Hp)(a C:Addr):Prop:=H a=some (xo a (.ref C) none)\/∃d fs,H a=some (xo a (.ref C) (some d))/\H d=some (.xd fs)
section
variable {X:Cx}{pins:Nv}{σ:St}{H:Hp}{s:Ny}
theorem Fq.inst(I:Inv X pins σ H s)(r:Fq H a C):∃odo ox,PySem.W.InstAt s.heap a ox C odo:=by
 rcases r with r | ⟨d,fs,r,b⟩
 ·obtain⟨e,_⟩:=(show bM X.prog X.w H s.heap a (xo a (.ref C) none) from I.hok a _ r)
  obtain⟨ox,z⟩:=Dr e;exact⟨none,ox,z⟩
 ·obtain⟨⟨o,vs,m,l,k,j⟩,_⟩:=(show bM X.prog X.w H s.heap a (xo a (.ref C) (some d)) from I.hok a _ r)
  obtain⟨mA,n,_⟩:=(show bM X.prog X.w H s.heap d (.xd fs) from I.hok d _ b);obtain⟨c,g,_⟩:=nG n;exact⟨some c,o,m,l,by unfold PySem.W.notCls;rw[j],by rw[k];exact g⟩
def IP(K:Nu):List V->Hp->VK->Prop:=λxs H Q=>GB K xs H Q \/
 (∃a C c b,xs=[.ref a,c]/\l8 c=true/\Fq H a C/\PySem.W.XTy K C/\PySem.W.kitOne K (.ref C) (zO c)=some b/\Q (.bl b) H) \/
 (∃a C tp cs b,xs=[.ref a,.ref tp]/\H tp=some (.tup cs)/\(∀c∈cs,l8 c=true)/\Fq H a C/\PySem.W.XTy K C/\PySem.W.kitAny K (.ref C) (cs.map zO)=some b/\Q (.bl b) H)
theorem bA:g_ X (.builtin "isinstance") (IP X.K):=by
 intro g s σ H xs us Q I r h;rcases h with h | ⟨a,C,c,b,rfl,p,x,ty,e,q⟩ | ⟨a,C,y,J,b,rfl,D,p,x,ty,e,q⟩
 ·exact jv g s σ H xs us Q I r h
 ·obtain⟨u,v,rfl,l,k⟩:=r.two
  cases l;rw[vD k p];obtain⟨odo,m⟩:=x.inst I;exact PySem.W.kia_one (PySem.W.kitx_exc (odo:=odo) ty) I.kIn m e (λz=>nomatch z) λj=>⟨.bl b,H,I.tok j,rfl,q⟩
 ·obtain⟨u,v,rfl,l,k⟩:=r.two
  cases l;cases k;obtain⟨odo,m⟩:=x.inst I;obtain⟨_,its,rvs,o,h1,h2,n,B⟩:=(show bM X.prog X.w H s.heap y (.tup J) from I.hok y _ D);obtain⟨oc,odd,odt,osl⟩:=o;dsimp only at h2 B;subst h2 B;have G:=wW rvs p;subst G;exact PySem.W.kia_tup (PySem.W.kitx_exc (odo:=odo) ty) I.kIn m h1 e (λz=>nomatch z) λj=>⟨.bl b,H,I.tok j,rfl,q⟩
end
end L2
namespace PySem.W
open PySem PySem.Spec PySem.Calls PyProof.Rows
section
variable {prog:NE}{w:NH}{A:NG}{E:Nt}{s:Ny}{K:Frag}{x D:Addr}{ox:Obj}{odo:Option Obj}{name:Str}
theorem exc_value{Q:Nt}(X:K.In s.heap)(I:InstAt s.heap x ox D odo)(c:XTy K D)(hf:findObj K D odo name=some (.value v))(hv:handedIn v=true)(h:Q v {s with toks:=s.toks+1}) :
  wpAny (model prog w) A (getAttr (.ref x) name true) Q E s:=by
 obtain⟨hh,gg,d,t,os⟩:=s;have a:=I.type (M:=model prog w);have j:=looks_findIn (M:=model prog w) X c.ga;have g:=looks_findIn (M:=model prog w) X c.gh;have e:=looks_find (M:=model prog w) X I hf;unfold getAttr getAttrBy;refine q04 (wpAny_mkText (q0T (q04 (a.at (q04 (j.at ?_))))));show wpAny _ _ (getAttrByItsOwn _ _ _ _ _ _) _ _ _;unfold getAttrByItsOwn hookBefore;refine q04 (g.at ?_);refine q04 (wpAny_attempt (q0T ?_));unfold callGetattribute boundAndCalled;show wpAny _ _ (bindSpecial _ _ >>= _) _ _ _;rw[AT];refine q04 (q05 ?_);refine wpAny_call (codeAny_call_builtin F.excAttr_ValueError.ga.plain F.entry_bexc_ga (wx X I c.mb ?_));have b:slotArgs "__getattribute__" 1 ⟨[.ref x,.str name t],[]⟩=pure (.ref x,[.str name t]):=rfl;unfold Builtin.«object.__getattribute__»;show wpAny _ _ (slotArgs "__getattribute__" 1 ⟨[.ref x,.str name t],[]⟩ >>= _) _ _ _;rw[b];refine q04 (q05 ?_);refine q04 (q05 (q04 (a.at (q04 (e.at ?_)))));refine q05 ?_;exact handed_on hv h
end
end PySem.W
namespace L2
open PySem PySem.Spec PyProof.Rows
section
variable {X:Cx}{e:Expr}{ta:TE}{f:Str}{pos:Pos}
def Dv(K:Nu)(ta:TE)(f:Str):TE:=λσ H Q=>ta σ H λx H1=>∃a C d fs v,x=.ref a/\H1 a=some (xo a (.ref C) (some d))/\H1 d=some (.xd fs)/\fs.lookup f=some v/\PySem.W.XTy K C/\PySem.W.hasDictIn K C=true/\aq K C f/\Q v H1
theorem Gu(he:PE X e ta)(hb:attributeBase e f X.env (eval e X.env)=eval e X.env):PE X (.Attribute e f pos) (Dv X.K ta f):=by
 intro b s σ H Q I h;refine At hb (bV (he b s σ H _ I h) λu j ⟨x,m,g,r,a,C,d,fs,v,R,T,S,l,c,O,n,q⟩=>?_);subst R;obtain rfl:u=Value.ref a:=r;obtain⟨⟨o,vs,e1,Z,Y,U⟩,_⟩:=(show bM X.prog X.w m j.heap a (xo a (.ref C) (some d)) from g.hok a _ T);obtain⟨D,B,k⟩:=(show bM X.prog X.w m j.heap d (.xd fs) from g.hok d _ S);obtain⟨y,L,M⟩:=nG B;obtain⟨u,G,p⟩:=jK.some_of (v:=v) (o:=D f) (by rw[<- l];exact k f);have J:PySem.W.InstAt j.heap a o C (some y):=⟨e1,Z,by unfold PySem.W.notCls;rw[U],by rw[Y];exact L⟩;exact PySem.W.exc_value g.kIn J c (PySem.W.findObj_own O n rfl (by rw[M,G])) (uz p) ⟨v,m,g.tok _,p,q⟩
end
end L2
namespace SpM
open PySem
def step(c:Nat)(rows:List (List Nat))(d:Nat):List (List Nat):=if d=c then rows++[[]] else rows.dropLast++[rows.getLastD []++[d]]
def parts(c:Nat)(x:Nw):List (List Nat):=x.foldl (step c) [[]]
theorem rO(c:Nat){n:Nat}{rows:List (List Nat)}(h:∀r∈rows,r.length<=n)(d:Nat):∀r∈step c rows d,r.length<=n+1:=by
 intro r hr;unfold step at hr
 split at hr
 ·rcases MM.mp hr with q | q
  ·exact Nat.le_succ_of_le (h r q)
  ·rw[MB.mp q];simp
 ·rcases MM.mp hr with q | q
  ·exact Nat.le_succ_of_le (h r (List.dropLast_subset _ q))
  ·rw[MB.mp q,MV]
   have:(rows.getLastD []).length<=n:=by
    by_cases e:rows=[]
    ·rw[e];simp
    ·have a:rows.getLastD []∈rows:=by
      rw[List.getLastD_eq_getLast?,List.getLast?_eq_some_getLast e];exact List.getLast_mem e
     exact h _ a
   simpa using this
theorem Cf(c:Nat)(rows:List (List Nat))(d:Nat):(step c rows d).length<=rows.length+1:=by
 unfold step
 split
 ·simp
 ·rw[MV,List.length_dropLast];simp
theorem nc(c:Nat):∀(x:Nw) (rows:List (List Nat)) (n:Nat),(∀r∈rows,r.length<=n)->(∀r∈x.foldl (step c) rows,r.length<=n+x.length)/\(x.foldl (step c) rows).length<=rows.length+x.length
 | [],rows,n,h=>⟨by simpa using h,by simp⟩
 |d::x,rows,n,h=>by
  obtain⟨h1,h2⟩:=nc c x (step c rows d) (n+1) (rO c h d);have h3:=Cf c rows d;refine⟨λr hr=>?_,?_⟩
  ·have:=h1 r hr;simp only[MK];omega
  ·rw[List.foldl_cons];simp only[MK];omega
theorem oE(c:Nat)(x:Nw):(∀r∈parts c x,r.length<=x.length)/\(parts c x).length<=1+x.length:=by
 have:=nc c x [[]] 0 (by simp);unfold parts;simpa using this
end SpM
namespace PyProof.Rows
open PySem PySem.Spec PySem.Builtin PySem.Builtin.Str
end PyProof.Rows
namespace L2
open PySem PySem.Spec PyProof.Rows QL
structure DH(K:Nu)(C:Addr)(m:Str)(f:Addr):Prop where
 sp:PySem.W.specialIn K (.ref C) "__getattribute__"=some (some (.builtin "type.__getattribute__"))
 rd:PySem.W.readsIn K C (.type "type")=true
 fi:PySem.W.findCls K (.ref C) (.type "type") m=some (.val (.ref f))
 kp:PySem.W.keepIn K (.ref f)=true
section
variable {X:Cx}{CX:kC}{k:Nat}{f C:Addr}{fd:ND}{ps:NF}{sp:Sp}{E:XK}{x m:Str}{p pos apos:Pos}{e:Expr}{es:NK}{t:TA}
theorem DL{pl:Sem Bool}(c:DH X.K C m f)(F:aS X.prog X.w X.K X.mg X.base CX k f fd ps sp)(hr:dv k X.A)(hg:Gl X x)(hm:X.mg x=some (.ref C))(hb:cq X.K fd ps [])(hx:dr CX X E)(ha:PA X (e::es) t)
  (hdb:autoParam ((x==("__debug__":Str))=false) zz2._auto_1) (hst:autoParam (starEach (e::es) X.env=(false,eval e X.env)::starEach es X.env) zz0._auto_1) (hpl:autoParam ((backTo pos (starEach es X.env)).any (·.1)=false) zz0._auto_1)
  (ht:autoParam (eval (.Call (.Attribute (.Name x p) m apos) (e::es) [] pos) X.env=(do
   let ov <- eval (.Name x p) X.env
   standAt apos.atName
   let (f,first) <- holding [ov] (getMethod ov m pl)
   callWith pos f first (backTo pos (starEach (e::es) X.env)) (backToKw pos (keywordEach [] X.env)))) zz0._auto_1) :
  PE X (.Call (.Attribute (.Name x p) m apos) (e::es) [] pos) (pw sp [] E t):=by
 intro a s σ H Q I h;refine PySem.W.methodCall_KW (pl:=pl) (gm I hg hm ?_ hdb) ht;refine PySem.W.method_cls I.kIn c.sp (PySem.W.cls_value I.kIn c.rd c.fi rfl ?_);have j:=I.tok (s.toks+1);refine PySem.W.callWith_K (first:=[]) (h₀:=X.base) I.ok.mod.kin c.kp (bV (ha pos a _ σ H _ j h) λus s2 ⟨vs,H2,b,r,g⟩=>⟨b.kIn,?_⟩) hst hpl;exact nS F hr hb .nil hx b r g
end
section
variable (P:NE)(w:NH)(K:Nu)(mg:NC)(base:Heap)(CX:kC)
structure Ch(k:Nat)(x m:Str)(ps:NF)(sp:Sp):Prop where
 ex:∃(C f:Addr) (fd:ND),aS P w K mg base CX k f fd ps sp/\mg x=some (.ref C)/\DH K C m f/\cq K fd ps []
structure lz(k:Nat)(x:Str)(C:Addr)(ps:NF)(sp:Sp):Prop where
 ex:∃(f:Addr) (fd:ND),aS P w K mg base CX k f fd ps sp/\mg x=some (.ref C)/\Mk K C f/\cq K fd ps []
structure cg(k:Nat)(C:Addr)(m:Str)(ps:NF)(sp:Sp):Prop where
 ex:∃(f:Addr) (fd:ND),aS P w K mg base CX k f fd ps sp/\mK K C/\dc K C m f/\cq K fd ps []
end
section
variable {X:Cx}{CX:kC}{k:Nat}{C:Addr}{ps:NF}{sp:Sp}{E:XK}{x m:Str}{p pos apos:Pos}{e o:Expr}{es:NK}{t:TA}{ta:TE}
theorem p_{pl:Sem Bool}(c:Ch X.prog X.w X.K X.mg X.base CX k x m ps sp)(hr:dv k X.A)(hg:Gl X x)(hx:dr CX X E)(ha:PA X (e::es) t)
  (hdb:autoParam ((x==("__debug__":Str))=false) zz2._auto_1) (hst:autoParam (starEach (e::es) X.env=(false,eval e X.env)::starEach es X.env) zz0._auto_1) (hpl:autoParam ((backTo pos (starEach es X.env)).any (·.1)=false) zz0._auto_1)
  (ht:autoParam (eval (.Call (.Attribute (.Name x p) m apos) (e::es) [] pos) X.env=(do
   let ov <- eval (.Name x p) X.env
   standAt apos.atName
   let (f,first) <- holding [ov] (getMethod ov m pl)
   callWith pos f first (backTo pos (starEach (e::es) X.env)) (backToKw pos (keywordEach [] X.env)))) zz0._auto_1) :
  PE X (.Call (.Attribute (.Name x p) m apos) (e::es) [] pos) (pw sp [] E t):=by
 obtain⟨C,f,fd,F,a,cf,b⟩:=c.ex;exact DL cf F hr hg a b hx ha hdb hst hpl ht
theorem gl(c:lz X.prog X.w X.K X.mg X.base CX k x C ps sp)(hr:dv (k+1) X.A)(hg:Gl X x)(hx:dr CX X E)(ha:PA X (e::es) t)
  (hdb:autoParam ((x==("__debug__":Str))=false) zz2._auto_1) (hst:autoParam (starEach (e::es) X.env=(false,eval e X.env)::starEach es X.env) zz0._auto_1) (hpl:autoParam ((backTo pos (starEach es X.env)).any (·.1)=false) zz0._auto_1) :
  PE X (.Call (.Name x p) (e::es) [] pos) (AX C sp [] E t):=by
 obtain⟨f,fd,F,a,M,b⟩:=c.ex;exact FM M F hr hg a b .nil hx ha hdb hst hpl
theorem bS{pl:Sem Bool}(c:cg X.prog X.w X.K X.mg X.base CX k C m ps sp)(hr:dv k X.A)(hx:dr CX X E)(he:PE X o ta)(ha:PA X (e::es) t)
  (hst:autoParam (starEach (e::es) X.env=(false,eval e X.env)::starEach es X.env) zz0._auto_1) (hpl:autoParam ((backTo pos (starEach es X.env)).any (·.1)=false) zz0._auto_1)
  (ht:autoParam (eval (.Call (.Attribute o m apos) (e::es) [] pos) X.env=(do
   let ov <- eval o X.env
   standAt apos.atName
   let (f,first) <- holding [ov] (getMethod ov m pl)
   callWith pos f first (backTo pos (starEach (e::es) X.env)) (backToKw pos (keywordEach [] X.env)))) zz0._auto_1) :
  PE X (.Call (.Attribute o m apos) (e::es) [] pos) (ux C m sp [] E ta t):=by
 obtain⟨f,fd,F,g,a,b⟩:=c.ex;exact Go he g a F hr b .nil hx ha hst hpl ht
theorem C8{pl:Sem Bool}(c:cg X.prog X.w X.K X.mg X.base CX k C m ps sp)(hr:dv k X.A)(hx:dr CX X E)(he:PE X o ta)
  (ht:autoParam (eval (.Call (.Attribute o m apos) [] [] pos) X.env=(do
   let ov <- eval o X.env
   standAt apos.atName
   let (f,first) <- holding [ov] (getMethod ov m pl)
   callWith pos f first (backTo pos (starEach [] X.env)) (backToKw pos (keywordEach [] X.env)))) zz0._auto_1) :
  PE X (.Call (.Attribute o m apos) [] [] pos) (ux C m sp [] E ta uX):=by
 obtain⟨f,fd,F,e,a,b⟩:=c.ex;exact E9 he e a F hr b .nil hx ht
end
section
variable {g:TG}{ti:TT}{te:TE}{σ:St}{H:Hp}{Q:List V->Hp->Prop}
theorem D5{x:Str}(Pv:Nat->List V->St->Hp->Prop)(h0:Pv 0 [] σ H)(hz:∀i acc σ H,Pv i acc σ H->acc.length<sizeLine)(hi:∀i acc σ H,Pv i acc σ H->i<=x.cps.size)
  (hs:∀i c acc σ H,x.cps[i]?=some c->Pv i acc σ H->g (.str ⟨#[c]⟩) σ H λσ2 H3=>ti σ2 H3 λb H4=>if b=true then te σ2 H4 λv H5=>Pv (i+1) (acc++[v]) σ2 H5 else Pv (i+1) acc σ2 H4)
  (he:∀acc σ H,Pv x.cps.size acc σ H->Q acc H):jy (IV x) g ti te σ H Q:=by
 exact kN (J:=IV x) (g:=g) (ti:=ti) (te:=te) (Q:=Q) (n:=x.cps.size) Pv h0 hz hi (λacc σ H w=>MW _) (λi acc σ H hlt w=>hlt)
  (λi v acc σ H H2 hlt w y=>by obtain⟨rfl,c,a,rfl⟩:=y;exact hs i c acc σ H2 a w) he
end
section
variable (P:NE)(w:NH)(K:Nu)(mg:NC)(base:Heap)(CX:kC)
structure pO(k:Nat)(m:Str)(os:List (Addr×Sp)):Prop where
 ex:∀o∈os,∃ps,cg P w K mg base CX k o.1 m ps o.2
end
def uT(m:Str)(os:List (Addr×Sp))(E:XK)(ta:TE)(t:TA):TE:=λσ H Q=>ta σ H λx H1=>∃o∈os,∃a dx fs,x=.ref a/\H1 a=some (.ins o.1 dx fs)/\fs.lookup m=none /\
 t σ H1 λvs H2=>o.2 (x::(vs++[])) H2 Q E
section
variable {X:Cx}{CX:kC}{k:Nat}{os:List (Addr×Sp)}{E:XK}{m:Str}{pos apos:Pos}{e o:Expr}{es:NK}{t:TA}{ta:TE}
theorem Ax{pl:Sem Bool}(c:pO X.prog X.w X.K X.mg X.base CX k m os)(hr:dv k X.A)(hx:dr CX X E)(he:PE X o ta)(ha:PA X (e::es) t)
  (hst:autoParam (starEach (e::es) X.env=(false,eval e X.env)::starEach es X.env) zz0._auto_1) (hpl:autoParam ((backTo pos (starEach es X.env)).any (·.1)=false) zz0._auto_1)
  (ht:autoParam (eval (.Call (.Attribute o m apos) (e::es) [] pos) X.env=(do
   let ov <- eval o X.env
   standAt apos.atName
   let (f,first) <- holding [ov] (getMethod ov m pl)
   callWith pos f first (backTo pos (starEach (e::es) X.env)) (backToKw pos (keywordEach [] X.env)))) zz0._auto_1) :
  PE X (.Call (.Attribute o m apos) (e::es) [] pos) (uT m os E ta t):=by
 intro b s σ H Q I h;refine PySem.W.methodCall_KW (pl:=pl) (bV (he b s σ H _ I h) λu p ⟨x,L,n,v,y,B,a,dx,fs,ex,D,l,q⟩=>?_) ht;subst ex;obtain rfl:u=Value.ref a:=v;obtain⟨ps,G⟩:=c.ex y B;obtain⟨f,fd,F,J,g,C⟩:=G.ex;refine gL n D J g l ?_;refine PySem.W.callWith_K (first:=[.ref a]) (h₀:=X.base) I.ok.mod.kin g.kp (bV (ha pos b p σ L _ n q) λus s2 ⟨vs,H2,j,r,w⟩=>⟨j.kIn,?_⟩) hst hpl;exact nS (us:=.ref a::us) (vs:=.ref a::vs) F hr C .nil hx j (.cons rfl r) w
theorem wX{pl:Sem Bool}(c:pO X.prog X.w X.K X.mg X.base CX k m os)(hr:dv k X.A)(hx:dr CX X E)(he:PE X o ta)
  (ht:autoParam (eval (.Call (.Attribute o m apos) [] [] pos) X.env=(do
   let ov <- eval o X.env
   standAt apos.atName
   let (f,first) <- holding [ov] (getMethod ov m pl)
   callWith pos f first (backTo pos (starEach [] X.env)) (backToKw pos (keywordEach [] X.env)))) zz0._auto_1) :
  PE X (.Call (.Attribute o m apos) [] [] pos) (uT m os E ta uX):=by
 intro b s σ H Q I h;refine PySem.W.methodCall_KW (pl:=pl) (bV (he b s σ H _ I h) λu s1 ⟨x,H1,e,j,n,p,a,dx,fs,ex,v,l,q⟩=>?_) ht;subst ex;obtain rfl:u=Value.ref a:=j;obtain⟨ps,w⟩:=c.ex n p;obtain⟨f,fd,F,y,g,r⟩:=w.ex;refine gL e v y g l ?_;exact PySem.W.callWith_K0 (first:=[.ref a]) e.kIn g.kp (nS (us:=[.ref a]) (vs:=[.ref a]) F hr r .nil hx e (.cons rfl .nil) q)
end
structure fQ(K:Nu)(C:Addr):Prop where
 cl:mK K C
 ha:PySem.W.findIn K (.ref C) "__class__"=some (some (.builtin "object.__class__"))
 hn:PySem.W.specialIn K (.builtin "object.__class__") "__get__"=some (some (.builtin "getset_descriptor.__get__"))
 htk:PySem.W.takesIn K (.builtin "object.__class__")=some true
 hm:PySem.W.mroIn K C (.type "object")=some true
theorem fQ.ty{K:Nu}{H:Hp}{fs:List (Str×V)}(i:fQ K C)(e:H a=some (.ins C dx fs)):m7 K H (.ref a) (.ref C):=.ins e i.cl i.ha i.hn i.htk i.hm
section
variable {X:Cx}{es:NK}{t:TA}
theorem bh{x j p}(hr:PA X es t):PA X (.Constant (.str x) j p::es) (qJ (tC (.str x)) t):=aa ri hr rfl
theorem bj{x j p}(hr:PA X es t):PA X (.Constant (.int x) j p::es) (qJ (tC (.int x)) t):=aa ah hr rfl
end
end L2
namespace PyProof.Rows
open PySem PySem.Spec PySem.Builtin PySem.Builtin.Str
end PyProof.Rows
namespace L2
open PySem PySem.Spec PyProof.Rows QL
section
variable {X:Cx}{pins:Nv}{σ:St}{H:Hp}{s:Ny}{a:Addr}{kvs:List (df×V)}{k:df}{u r:Value}{d:V}{A:NG}{E:Nt}
theorem EZ{Q:Nt}(I:Inv X pins σ H s)(e:H a=some (.dK kvs))(ry:bu (kV k) u)(rd:bu d r)(hl:kvs.length<sizeLine)
  (h1:∀v w' s',cA kvs k=some v->Inv X pins σ H s'->bu v w'->Q w' s') (h2:cA kvs k=none->∀s',Inv X pins σ (ay H a (.dK (cQ kvs k d))) s'->Q r s') :
  wpAny (model X.prog X.w) A (call (.builtin "dict.setdefault") [.ref a,u,r]) Q E s:=by
 obtain⟨z,l,vs,c,m⟩:=ET I.hok e;have n:vs.length<=sizeLine:=by rw[<- c.length];exact z
 have j:(cQ kvs k d).length<=sizeLine:=by have:=ig kvs k d;omega
 refine call_meetsIn PySem.F.slot_dict_setdefault m.typeIs PySem.F.entry_dict_setdefault (PySem.F.args_dict_setdefault_3 _ _ _) (kt_meets_setdefault (cR X.prog X.w) a (uh ry) l r) ⟨vs,m,n,λv o=>?_,λx B g p=>?_⟩
 ·have q:=c.val k
  rw[o]at q;cases b:cA kvs k with
  |none=>rw[b]at q;exact False.elim q
  |some v0=>rw[b]at q;exact h1 v0 v _ b (I.tok _) q
 ·have q:=c.val k
  rw[x]at q;have b:cA kvs k=none:=by
   cases b:cA kvs k with
   |none=>rfl
   |some v0=>rw[b]at q;exact False.elim q
  have y:∃q,B.get? a=some q:=let ⟨q,_,_,hq,_⟩:=g;⟨q,hq⟩
  exact h2 b _ (pY I (by rw[e];exact True.intro) p y (yj j l (c.put k rd) g))
end
def wG(td ty tx:TE):TE:=λσ H Q=>td σ H λx H1=>∃a,x=.ref a/\JN H1 a/\ty σ H1 λy H2=>tx σ H2 λz H3=>∃kvs k,H3 a=some (.dK kvs)/\y=kV k/\kvs.length<sizeLine /\
 (∀v,cA kvs k=some v->Q v H3)/\(cA kvs k=none->Q z (ay H3 a (.dK (cQ kvs k z))))
section
variable {X:Cx}{o e f:Expr}{apos cpos:Pos}{td ty tx:TE}
theorem rC(ho:PE X o td)(he:PE X e ty)(hf:PE X f tx)(m:M2 X o "setdefault" apos e f cpos):PE X (.Call (.Attribute o "setdefault" apos) [e,f] [] cpos) (wG td ty tx):=by
 intro b s σ H Q I h;refine wpAny_Call_method m.base m.few m.line PySem.F.plainAttrs_dict PySem.F.slot_dict_setdefault PySem.F.type_dict_setdefault (bV (ho b s σ H _ I h) λu w ⟨x,H1,l,C,a,U,d,J⟩=>?_);subst U;obtain rfl:u=Value.ref a:=C;obtain⟨p,n,_⟩:=Hq l d;refine⟨p,n,?_⟩;rw[m.trees];refine Calls.callWith_builtin rfl (Calls.evalArgs_plain (Calls.spliced_cons (bV (he b w σ H1 _ l J) λiv r ⟨y,H2,Z,B,G⟩=>
  Calls.spliced_cons (bV (hf b r σ H2 _ Z G) λfv s3 ⟨z,H3,Y,j,kvs,k,O,T,c,S,R⟩=>Calls.spliced_nil ?_))))
 subst T;exact EZ Y O B j c (λv w' q L g D=>⟨v,H3,g,D,S v L⟩) λM q g=>⟨z,_,g,j,R M⟩
end
section
variable {K:Type}[DecidableEq K]
def ib(σ:List K)(v:K):List K:=if v∈σ then σ else σ++[v]
def met(l:List K):List K:=l.foldl ib []
theorem xA(σ:List K)(v k:K):decide (k∈ib σ v)=(decide (k∈σ)||decide (k=v)):=by
 unfold ib
 by_cases h:v∈σ
 ·rw[q07 h]
  by_cases e:k=v
  ·subst e;simp[h]
  ·simp[e]
 ·rw[q06 h]
  simp[MM]
theorem oV(σ:List K)(v:K):(ib σ v).length=if decide (v∈σ) then σ.length else σ.length+1:=by
 unfold ib
 by_cases h:v∈σ<;>simp[h]
theorem xl(l:List K)(v:K):met (l++[v])=ib (met l) v:=by unfold met;rw[List.foldl_append];rfl
theorem AN:∀(l σ:List K),(l.foldl ib σ).length<=σ.length+l.length
 | [],σ=>MW _
 |v::l,σ=>by
  have h:=AN l (ib σ v);have e:=oV σ v;rw[List.foldl_cons,MK]
  split at e<;>omega
theorem Fk(n:Nat)(l:List K)(h:l.length=n):(met l).length<=n:=by
 have:=AN l [];rw[<- h];unfold met;simpa using this
end
section
variable {prog:NE}{w:NH}{K:Type}[DecidableEq K]{knd:KeyKind prog w K}{A:NG}{R:Result->Shared->Prop}{I:Addr}{fp wr:NA}{G:Array GenState->Array GenState->Prop}{n:Nat}{P:Nat->Value->Prop}{St:Nat->Shared->Prop}
theorem Fs(W:WalksS prog w A.in1 I fp wr G n P St)(S:Addr)(hSf:S∉fp)(l:List K)(hl:l.length=n)
  (hval:∀i v,P i v->∃k,l[i]?=some k/\knd.is k v=true/\v.scannable=true) (hb:n+1<scanBound) :
  ∀(k i:Nat) (s:Ny),n-i=k->i<=n->St i s ->
   s.heap.SetOf knd S (λk'=>decide (k'∈met (l.take i))) (met (l.take i)).length ->
   (∀s',Moved (S::wr) G s s'->s'.heap.SetOf knd S (λk'=>decide (k'∈met l)) (met l).length->R (.ok (.ret .none)) s') ->
   codeAny (model prog w) A (.builtin "set.update.loop" ⟨[.ref S,.ref I],[]⟩) R s:=by
 have B:S∉wr:=λh=>hSf (W.sub _ h);have a:∀b∈wr,b∈S::wr:=λb hb=>MP _ hb;intro k
 induction k with
 |zero=>
  intro i s hk hi c D Z;have O:i=n:=by omega
  subst O;rw[<- hl,Na]at D;refine codeAny_builtin F.entry_set_update_loop ?_;rw[Around.under_plainId F.plain_set_update_loop _];show wpAny _ A.in1 (pyNext (.ref I) >>= _) _ _ s;refine q04 (W.done s _ _ c λs' r=>?_);show wpAny _ A.in1 (ret Value.none) _ _ s';refine q05 (Z s' (r.mono a) ?_);obtain⟨o,es,ep,t,M,cP⟩:=D;exact⟨o,es,ep,t,r.heap S _ B M,cP⟩
 |succ k ih=>
  intro i s hk hi c D Z;have u:i<n:=by omega
  refine codeAny_builtin F.entry_set_update_loop ?_;rw[Around.under_plainId F.plain_set_update_loop _];show wpAny _ A.in1 (pyNext (.ref I) >>= _) _ _ s;refine q04 (W.item i s _ _ u c λv s' hP m r=>?_);obtain⟨j,x,y,L⟩:=hval i v hP;have Y:s'.heap.SetOf knd S (λk'=>decide (k'∈met (l.take i))) (met (l.take i)).length:=by
   obtain⟨o,es,ep,tb,M,cP⟩:=D;exact⟨o,es,ep,tb,r.heap S _ B M,cP⟩
  show wpAny _ A.in1 (holding [v] (setAdd S v) >>= _) _ _ s';refine q04 (q0T ?_);unfold setAdd;refine q0T ?_;refine q04 (knd.pyHash (k:=j) y ?_);have g:(met (l.take i)).length+1<scanBound:=by have:=Fk i (l.take i) (by rw[Nb];omega);omega
  refine wpAny_setAddHashed_of (knd:=knd) (s:={s' with toks:=s'.toks+1}) y L Y g λh' p U=>?_;have ht:l.take (i+1)=l.take i++[j]:=by rw[q0D,x];rfl
  have T:h'.SetOf knd S (λk'=>decide (k'∈met (l.take (i+1)))) (met (l.take (i+1))).length:=
   SetOf_congr U (λk'=>by rw[ht,xl,xA]) (by rw[ht,xl,oV])
  refine q05 ⟨plainId_quiet F.plain_set_update_loop _,ih (i+1) _ ⋯ u (W.frame _ s' _ _ m (Nat.le_succ _) λb hb o e=>?_) T λJ q C=>?_⟩
  ·rw[p.2 b (λh:b=S=>hSf (by rw[<- h];exact hb))];exact e
  ·refine Z J (Moved.trans W.gtrans ((r.mono a).then_heap (Nat.le_succ _) λb o hb e=>?_) q) C
   rw[p.2 b (λh:b=S=>hb (by rw[h];exact q0B))];exact e
end
def dM(z:Str):List Str:=z.cps.toList.map λc=>(⟨#[c]⟩:Str)
section
variable {prog:NE}{w:NH}{A:NG}{E:Nt}{s:Ny}
def EG(s:Ny)(led:Bool):Shared:={s with heap:=s.heap.push {cls:=.type "set",dict:=none,data:=.set #[] 0 (.fresh 0 0 led)} }
set_option maxHeartbeats 3200000 in
theorem vF{v:Value}{R:Heap->Nat->Prop}{Q:Nt}
  (hi:∀led,(EG s led).TypeIs (.ref s.heap.objs.size) "set"->codeAny (model prog w) A.in1 (.call (.builtin "set.__init__") {pos:=[.ref s.heap.objs.size,v]})
   (wants (λr s₂=>r=.none/\∃h' tk,s₂={s with heap:=h',toks:=tk}/\R h' tk) E) (EG s led))
  (h:∀(h':Heap) (tk:Nat),R h' tk->Q (.ref s.heap.objs.size) {s with heap:=h',toks:=tk}) :
  wpAny (model prog w) A (call (.type "set") [v]) Q E s:=by
 obtain⟨c,tl,hmro⟩:=PySem.F.called_set.mro;have hmade:=PySem.F.called_set.made;have hsub:=PySem.F.called_set.sub;refine wpAny_call (codeAny_of_tree ?_);show wpAny _ _ (callAny (.type "set") _) _ _ _;refine q05 ⟨Code.quiet_builtin _ (by decide +kernel),codeAny_builtin PySem.F.entry_type_call ?_⟩;rw[Around.under_plain (weight_type_call_type "set" [v] []) rfl];have h1:=PySem.F.called_set.notType;have h2:=PySem.F.called_set.canCreate;have hct:=PySem.F.typeCall_set_1 v
 repeat (any_goals (first | with_reducible assumption | with_reducible refine q05 ?_ | with_reducible refine q04 ?_ | with_reducible refine q0T ?_ | with_reducible refine wpAny_of_eq (by assumption) ?_ | with_reducible refine wpAny_isInstance (by assumption) (by assumption) ?_ | with_reducible refine wpAny_specialOf (by assumption) (by assumption) ?_ | with_reducible refine wpAny_call ?_ | ((with_reducible apply wpAny_ite_false);focus (rfl;done)) | wp_delta))
 refine codeAny_mono (code_set_new_1 v (E:=E) (Q₁:=λobj b=>∃led:Bool,obj=.ref s.heap.objs.size/\b=EG s led) λled=>⟨led,rfl,rfl⟩) λr b hr=>?_;cases r with
 |error e=>exact hr
 |ok fl=>
  cases fl with
  |ret obj=>
   obtain⟨led,rfl,rfl⟩:=hr;have j:(EG s led).TypeIs (.ref s.heap.objs.size) "set":=⟨_,MF _ rfl,rfl⟩;have hli:=PySem.F.called_set.init.lookup;have hbi:=PySem.F.called_set.init.bind (.ref s.heap.objs.size)
   repeat (any_goals (first | with_reducible assumption | with_reducible refine q05 ?_ | with_reducible refine q04 ?_ | with_reducible refine q0T ?_ | with_reducible refine wpAny_of_eq (by assumption) ?_ | with_reducible refine wpAny_isInstance (by assumption) (by assumption) ?_ | with_reducible refine wpAny_specialOf (by assumption) (by assumption) ?_ | with_reducible refine wpAny_call ?_ | ((with_reducible apply wpAny_ite_false);focus (rfl;done)) | wp_delta))
   refine codeAny_mono (hi led j) λg s₂ a=>?_;cases g with
   |error e=>exact a
   |ok fl₂=>
    cases fl₂ with
    |ret r=>
     obtain⟨rfl,h',tk,rfl,k⟩:=a
     repeat (any_goals (first | with_reducible assumption | with_reducible refine q05 ?_ | with_reducible refine q04 ?_ | with_reducible refine q0T ?_ | with_reducible refine wpAny_of_eq (by assumption) ?_ | with_reducible refine wpAny_isInstance (by assumption) (by assumption) ?_ | with_reducible refine wpAny_specialOf (by assumption) (by assumption) ?_ | with_reducible refine wpAny_call ?_ | ((with_reducible apply wpAny_ite_false);focus (rfl;done)) | wp_delta))
     exact h _ _ k
    |_=>exact a.elim
  |_=>exact hr.elim
theorem s_{x:Str}{t:Tok}{Q:Nt}(hh:A.handled=none)(hb:x.cps.size+1<scanBound)
  (h:∀(h':Heap) (tk:Nat),h'.SetOf (strKind prog w) s.heap.objs.size (λk'=>decide (k'∈met (dM x))) (met (dM x)).length ->
   (∀b o,s.heap.get? b=some o->h'.get? b=some o)->Q (.ref s.heap.objs.size) {s with heap:=h',toks:=tk}) :
  wpAny (model prog w) A (call (.type "set") [.str x t]) Q E s:=by
 refine vF (R:=λh' _=>h'.SetOf (strKind prog w) s.heap.objs.size (λk'=>decide (k'∈met (dM x))) (met (dM x)).length/\∀b o,s.heap.get? b=some o->h'.get? b=some o)
  (λa r=>?_) λh' tk hr=>h h' tk hr.1 hr.2
 refine codeAny_call_builtin PySem.F.called_set.init.plain PySem.F.entry_set_init (check_set_init_1 r ?_);unfold EG at r ⊢;have D:(s.heap.push {cls:=.type "set",dict:=none,data:=.set #[] 0 (.fresh 0 0 a)}).get? s.heap.objs.size=some {cls:=.type "set",dict:=none,data:=.set #[] 0 (.fresh 0 0 a)}:=MF _ rfl;have hsls:=PySem.F.sub_str_set;have hslf:=PySem.F.sub_str_frozenset;have hne:(Value.type "str" == Value.type "dict")=false:=by decide
 unfold Builtin.«set.__init__» noKeywords Builtin.Frozenset.updateFrom;generalize p:pyIter=PI
 wp_walk
 subst p;refine wpAny_pyIter_str λo St W l=>?_;refine q04 (wpAny_runValue ?_);have m:s.heap.objs.size∉[(s.heap.push {cls:=.type "set",dict:=none,data:=.set #[] 0 (.fresh 0 0 a)}).objs.size]:=by
  rw[Heap.size_push];simp only[MB]
  exact MS (M8 _)
 refine Fs (knd:=strKind prog w) ((W _ (by simp[hh])).toS) s.heap.objs.size m (dM x) (by simp[dM])
  (λi v ⟨c,u,C,q⟩=>⟨⟨#[c]⟩,by unfold dM;rw[MC,Array.getElem?_toList,C];rfl,by rw[q];exact strKind_is _ _ _ _,by rw[q];rfl⟩) hb (x.cps.size-0) 0 _ ⋯ (MX _) l ?hS0 ?hR
 case hS0=>
  exact SetOf_congr ((setObjOf_fresh (knd:=strKind prog w) a).setOf (Mz _ D) (by unfold scanBound;omega)) (λ_=>rfl) rfl
 case hR=>
  intro y g n;obtain⟨h',G,M,j,k⟩:=y;have J:G=s.gens:=g.gens;have L:M=s.drawn:=g.drawn;have I:k=s.os:=g.os;subst J;subst L;subst I
  show wpAny _ _ _ _ _ _;refine q05 ?_;show wpAny _ _ (ret Value.none) _ _ _;refine q05 ⟨rfl,h',j,rfl,n,λb B e=>?_⟩;have hb:=MZ e;refine g.heap b B ?_ (Mz _ (Mz _ e));simp only[MO,List.not_mem_nil,or_false,not_or,Heap.size_push];exact⟨MS hb,MS (Nat.lt_succ_of_lt hb)⟩
end
def u9(t:TE):TE:=λσ H Q=>t σ H λx H1=>∃z,x=.str z/\z.cps.size+1<scanBound/\Q (.int (met (dM z)).length) H1
section
variable {X:Cx}{e:Expr}{t:TE}{p p2 pos pos2:Pos}
theorem A_(hc:X.calm=true)(ha:PE X e t)(g1:Gl X "len")(m1:X.mg "len"=none)(g2:Gl X "set")(m2:X.mg "set"=none)
  (he1:autoParam (starEach [.Call (.Name "set" p2) [e] [] pos2] X.env=[(false,eval (.Call (.Name "set" p2) [e] [] pos2) X.env)]) zz0._auto_1)
  (he2:autoParam (starEach [e] X.env=[(false,eval e X.env)]) zz0._auto_1) :
  PE X (.Call (.Name "len" p) [.Call (.Name "set" p2) [e] [] pos2] [] pos) (u9 t):=by
 intro a s σ H Q I h;have m:bootBuiltins "len"=some (.builtin "len"):=by decide +kernel
 have k:bootBuiltins "set"=some (.type "set"):=by decide +kernel
 refine wpAny_Call_Name_kw (fC I g1 m1 m ?_);refine PyProof.Rows.callWith_builtin1 ?_ he1 rfl;rw[he1];show wpAny _ _ (spliced [(false,eval (.Call (.Name "set" p2) [e] [] pos2) X.env)]) _ _ _;refine Calls.spliced_cons ?_;refine wpAny_Call_Name_kw (fC (I.tok _) g2 m2 k ?_);refine PyProof.Rows.callWith_type1 ?_ he2 rfl;rw[he2];show wpAny _ _ (spliced [(false,eval e X.env)]) _ _ _;refine Calls.spliced_cons (bV (ha a _ σ H _ (I.tok _) h) λu s1 ⟨x,B,y,j,z,w,c,q⟩=>Calls.spliced_nil ?_);subst w;obtain⟨tk,rfl⟩:=j;refine s_ (I.ok.hd hc) c λh' tk' v n=>Calls.spliced_nil ?_;obtain⟨o,l,b,es,ep,tb,hd,_,_,g,r⟩:=v.objOf;have hle:=Fk z.cps.size (dM z) (by simp[dM]);have hb:z.cps.size<4096:=by unfold scanBound at c;omega
 refine call_len_set l b hd r (by rw[g];have:((4096:Nat):Int)<2^63:=nofun;omega) ?_;rw[g];exact⟨.int _,B,(y.kept (t':=_) n),⟨_,rfl⟩,q⟩
end
abbrev NT:=List (Str×Addr×List Nat)
def x4(t:NT):List (df×V):=t.map λx=>(Sum.inr x.1,V.ref x.2.1)
def x5(ns:Nw):List V:=ns.map fun(n:Nat)=>V.int (n:Int)
structure dy(H:Hp)(p:Addr)(t:NT):Prop where
 dict:H p=some (.dK (x4 t))
 list:∀x∈t,H x.2.1=some (.lst (x5 x.2.2))
 apart:(t.map (·.2.1)).Nodup
theorem dy.grow{H':Hp}{t:NT}(N:dy H p t)(k:∀a o,H a=some o->H' a=some o):dy H' p t:=⟨k _ _ N.dict,λx hx=>k _ _ (N.list x hx),N.apart⟩
theorem yS(z:Str):∀t:NT,cA (x4 t) (.inr z)=(t.find? λx=>decide (x.1=z)).map λx=>V.ref x.2.1
 | []=>rfl
 |x::t=>by
  have ih:=yS z t;unfold x4 at ih ⊢;rw[M5,List.find?_cons]
  by_cases e:x.1=z
  ·rw[c7 (by rw[e])];simp[e]
  ·rw[c_ (λh=>e (Sum.inr.inj h)),ih];simp[e]
theorem dy.new{t:NT}{z:Str}(N:dy H p t)(hl:H l=none)(hz:cA (x4 t) (.inr z)=none) :
  dy (ay (ay H l (.lst [])) p (.dK (cQ (x4 t) (.inr z) (.ref l)))) p (t++[(z,l,[])]):=by
 have g:p≠l:=λe=>by have:=N.dict;rw[e,hl]at this;exact nomatch this
 have c:∀x∈t,x.2.1≠l/\x.2.1≠p:=λx c=>by
  have q:=N.list x c
  constructor
  ·intro e;rw[e,hl]at q;exact nomatch q
  ·intro e;rw[e,N.dict]at q;exact nomatch q
 refine⟨?_,λx h=>?_,?_⟩
 ·rw[ad,qM _ hz];unfold x4;rw[ML];rfl
 ·rcases MM.mp h with h | h
  ·rw[ao (c x h).2,ao (c x h).1];exact N.list x h
  ·rw[MB.mp h,ao (Ne.symm g),ad];rfl
 ·rw[ML]
  refine List.nodup_append.mpr ⟨N.apart,by simp,λa k b j=>?_⟩;obtain⟨x,h1,rfl⟩:=Ng.mp k;rw[List.map_singleton]at j;rw[MB.mp j];exact(c x h1).1
theorem dy.put{t:NT}{i k:Nat}{x:Str×Addr×List Nat}(N:dy H p t)(hi:t[i]?=some x) :
  dy (ay H x.2.1 (.lst (x5 (x.2.2++[k])))) p (t.set i (x.1,x.2.1,x.2.2++[k])):=by
 have m:x∈t:=MD hi;have l:p≠x.2.1:=λe=>by have:=N.list x m;rw[<- e,N.dict]at this;exact nomatch this
 have a:i<t.length:=(My.mp hi).1;have n:x4 (t.set i (x.1,x.2.1,x.2.2++[k]))=x4 t:=by
  unfold x4;apply List.ext_getElem?;intro j;rw[MC,MC,List.getElem?_set]
  by_cases e:i=j
  ·subst e;rw[q07 rfl,q07 a,hi];rfl
  ·rw[q06 e]
 have o:(t.set i (x.1,x.2.1,x.2.2++[k])).map (·.2.1)=t.map (·.2.1):=by
  apply List.ext_getElem?;intro j;rw[MC,MC,List.getElem?_set]
  by_cases e:i=j
  ·subst e;rw[q07 rfl,q07 a,hi];rfl
  ·rw[q06 e]
 refine⟨by rw[ao l,n];exact N.dict,λy g=>?_,by rw[o];exact N.apart⟩;obtain⟨j,b⟩:=List.mem_iff_getElem?.mp g;rw[List.getElem?_set]at b
 by_cases e:i=j
 ·rw[q07 e,q07 a]at b
  cases b;exact ad
 ·rw[q06 e]at b
  have c:y.2.1≠x.2.1:=by
   intro q;have h1:(t.map (·.2.1))[i]?=some x.2.1:=by rw[MC,hi];rfl
   have h2:(t.map (·.2.1))[j]?=some x.2.1:=by rw[MC,b];simp[q]
   exact e ((List.getElem?_inj (My.mp h1).1 N.apart).mp (h1.trans h2.symm))
  rw[ao c];exact N.list y (MD b)
def ku(t:NT):List (Str×List Nat):=t.map λx=>(x.1,x.2.2)
def cn(m:List (Str×List Nat))(z:Str):List (Str×List Nat):=if z∈m.map (·.1) then m else m++[(z,[])]
theorem E6{t:NT}{z:Str}{v:V}(h:cA (x4 t) (.inr z)=some v):∃(i:Nat) (x:Str×Addr×List Nat),t[i]?=some x/\x.1=z/\v=.ref x.2.1:=by
 rw[yS]at h;cases a:t.find? (λx=>decide (x.1=z)) with
 |none=>rw[a]at h;exact nomatch h
 |some x=>
  rw[a]at h;have c:V.ref x.2.1=v:=q0P h;obtain⟨i,e⟩:=List.mem_iff_getElem?.mp (List.mem_of_find?_eq_some a);have b:=List.find?_some a;exact⟨i,x,e,of_decide_eq_true b,c.symm⟩
theorem Aq(t:NT):(ku t).map (·.1)=t.map (·.1):=by unfold ku;rw[MN];rfl
theorem Hj{t:NT}{z:Str}(h:cA (x4 t) (.inr z)=none):¬ z∈(ku t).map (·.1):=by
 intro m;rw[Aq]at m;obtain⟨x,a,e⟩:=Ng.mp m;refine wN h (Ng.mpr ⟨(.inr x.1,.ref x.2.1),Ng.mpr ⟨x,a,rfl⟩,?_⟩);show(Sum.inr x.1:df)=Sum.inr z;rw[e]
theorem dy.setdef{t:NT}{z:Str}{Q:VK}(N:dy H p t)(hl:H l=none)(hn:t.length<sizeLine)
  (h:∀(H':Hp) (t':NT) (i:Nat) (x:Str×Addr×List Nat),dy H' p t'->t'[i]?=some x->x.1=z->ku t'=cn (ku t) z->(∀y∈t',y∈t\/y.2.1=l)->(∀a o,a≠p->H a=some o->H' a=some o)->Q (.ref x.2.1) H') :
  ∃kvs k,ay H l (.lst []) p=some (.dK kvs)/\V.str z=kV k/\kvs.length<sizeLine/\(∀v,cA kvs k=some v->Q v (ay H l (.lst []))) /\
   (cA kvs k=none->Q (.ref l) (ay (ay H l (.lst [])) p (.dK (cQ kvs k (.ref l))))):=by
 have hpl:p≠l:=λe=>by have:=N.dict;rw[e,hl]at this;exact nomatch this
 have gr:∀a o,H a=some o->ay H l (.lst []) a=some o:=λa o e=>by
  rw[ao (λq=>by rw[q,hl]at e;exact nomatch e)];exact e
 refine⟨x4 t,.inr z,gr _ _ N.dict,rfl,by unfold x4;rw[MA];exact hn,λv m=>?_,λc=>?_⟩
 ·obtain⟨i,x,j,g,rfl⟩:=E6 m
  refine h _ t i x (N.grow gr) j g ?_ (λy b=>.inl b) λa o _ e=>gr a o e;have n:z∈(ku t).map (·.1):=by rw[Aq];exact Ng.mpr ⟨x,MD j,g⟩
  unfold cn;rw[q07 n]
 ·refine h _ (t++[(z,l,[])]) t.length (z,l,[]) (N.new hl c) (by simp) rfl ?_ (λy b=>(MM.mp b).imp id λq=>by rw[MB.mp q]) λa o r e=>by rw[ao r];exact gr a o e
  unfold cn;rw[q06 (Hj c)];unfold ku;rw[ML];rfl
theorem Gz{t:NT}{i:Nat}{x:Str×Addr×List Nat}(k:Nat):ku (t.set i (x.1,x.2.1,x.2.2++[k]))=(ku t).set i (x.1,x.2.2++[k]):=by
 unfold ku;rw[List.map_set]
theorem m3{m:List (Str×List Nat)}{z:Str}(h:(m.map (·.1)).Nodup):((cn m z).map (·.1)).Nodup:=by
 unfold cn
 by_cases e:z∈m.map (·.1)
 ·rw[q07 e];exact h
 ·rw[q06 e,ML]
  refine List.nodup_append.mpr ⟨h,by simp,λa g b c=>?_⟩;rw[List.map_singleton]at c;rw[MB.mp c];exact λq=>e ((show a=z from q)▸g)
theorem AK{X:Cx}{e:Expr}{t:TA}{x:Str}{j:Nat}{p apos cpos:Pos}(ha:PA X [e] t)(hline:(apos.endLine==cpos.line)=true)(hs:starEach [e] X.env=[(false,eval e X.env)]) :
  PE X (.Call (.Attribute (.Constant (.str x) j p) "join" apos) [e] [] cpos) (Ja X.K "str" (Ac X.K) (tC (.str x)) t):=
 lM PySem.F.plainAttrs_str PySem.F.slot_str_join PySem.F.type_str_join FD ri ha rfl (by rw[hs];rfl) hline hs rfl
end L2
namespace QL
open PySem PySem.Spec PyProof.Rows
theorem Ha:bootBuiltins "max"=some (.builtin "max"):=by decide +kernel
end QL
namespace L2
open PySem PySem.Spec PyProof.Rows
set_option tactic.hygienic true in
theorem pR.out{K:Nu}{bm:Nz}{nid:String}(c:pR K C bm nid):ju K C bm nid:=by
 refine⟨?_⟩;have q:=c.exc;unfold PySem.W.excIn at q;unfold PySem.W.excOut
 revert q
 cases K.lookup C with
 |none=>exact λq=>q
 |some ob=>
  obtain⟨ty,dd,data,sl⟩:=ob;intro q
  split at q
  ·rename_i e
   cases e
   split at q
   ·rename_i hm hs
    simp only[hm,hs];simp only[q0L]at q ⊢;obtain⟨⟨⟨⟨⟨a1,a2⟩,a3⟩,a4⟩,a5⟩,_⟩:=q;exact⟨⟨⟨⟨a1,a2⟩,a3⟩,a4⟩,a5⟩
   ·cases q
  ·cases q
section
variable {X:Cx}{e:Expr}{tx:TX}{i:Nat}{n x:Str}{D:Addr}{bmD:Nz}{nD:String}{b₀:Stmt}{suite:List Stmt}{epos pos hpos np:Pos}{ts:Addr->TS}
def pV(K:Nu)(D:Addr)(tx:TX)(i:Nat)(ts:Addr->TS):TS:=λDe σ H=>
 tx σ H (λ_ H1=>De.nx σ H1) (λcls od H'=>∃C bm nid,cls=.ref C/\ju K C bm nid/\oS K C D/\∀ea,H' ea=none ->
  ts ea {nx:=λσ2 H2=>De.nx (σ2.set i none) H2,rt:=De.rt,bk:=λσ2 H2=>De.bk (σ2.set i none) H2,ct:=λσ2 H2=>De.ct (σ2.set i none) H2} (σ.set i (some (.ref ea))) (ay H' ea (xo ea (.ref C) od)))
theorem yP{cp:Value->Prop}(hN:X.N.Nodup)(hst:X.stack=X.env::X.outer)(hfr:X.env.frame=some X.env.locals)(he:PX (GO cp X.prog X.w) X e tx)(hi:X.N[i]?=some n)(hk:X.env.kindOf n=some .local)(hgl:Gl X x)(hm:X.mg x=some (.ref D))(cD:ju X.K D bmD nD)
  (hbase:bmD.contains (.type "BaseException")=true) (hs:∀ea,wu (X.held ea) (b₀::suite) (ts ea))
  (hd:autoParam ((x==("__debug__":Str))=false) zz2._auto_1) (hsw:autoParam (swapsWith e none epos.line X.env=pure false) zz0._auto_1) :
  PS X (.Try [.Expr e epos] [.ExceptHandler (some (.Name x np)) (some n) (b₀::suite) hpos] [] [] pos) (pV X.K D tx i ts):=by
 intro a s σ H De I h;refine wpAny_Try_except ?_;refine wpAny_execs_cons (wpAny_Expr_any ?_ I.quiet hsw);refine bV (he a s σ H _ _ _ I h ?_) λv s1 ⟨y,H1,J,r1,q1⟩=>?_
 ·rintro H1 s1 ev s' J ⟨ea,cls,od,B,H',rfl,j,S,C,bm,nid,rfl,cC,un,O⟩
  have Y:jg cp B (X.env::X.outer) ea (.ref C) od .none s'.heap:=by rw[<- hst];exact j.fl
  refine DX (by rw[I.ok.frames,hst]) hfr Y λh4 g p=>?_;refine kH g λh5 k o=>?_;have J5:=J.caught j.toFly0 (by rw[hst];exact k) (p.trans o) S;refine wpAny_handleBy_cons (codeAny_handlers_test ?_) (by intro q;cases q);refine gm (J5.held ea) hgl hm ?_ hd;obtain⟨tl,N,nm,q,bs,hdct,sn,sub,ab,col,dd,k0,k1,k2,k3,k5,hC,T,dd1,cd1,sl1,U,w⟩:=cC.obj J5.kIn;obtain⟨tl',N',nm',q',bs',hdct',sn',sub',ab',col',dd',k0',k1',k2',k3',k5',hD,TD,_⟩:=cD.obj J5.kIn;obtain⟨dd2,cd2,sl2,c,b⟩:=un;rw[U]at c;cases c;rw[w]at b;obtain⟨ob,_,R,r,_⟩:=k.there;refine iR hC hD R r (TD.hasType hbase) b (codeAny_handlers_suite_as ?_);refine kH k λh6 Z L=>?_;have J6:=J.caught j.toFly0 (by rw[hst];exact Z) ((p.trans o).trans L) S;refine kt (v:=.ref ea) J6 hN hi (.inl hk) rfl (λs7 J7=>?_) (.inr hk);refine q0S (hs ea a s7 _ _ _ (J7.held ea) (O ea S)) (λfl s8 G=>?_) λ_ _ f=>f.elim;cases fl with
  |next=>obtain⟨σ',H2,m,q⟩:=G;exact d9 (v:=.non) (m.unheld I.ok.hd) hN hi hk λM l=>⟨_,_,l,q⟩
  |brk=>obtain⟨σ',H2,m,q⟩:=G;exact d9 (v:=.non) (m.unheld I.ok.hd) hN hi hk λM l=>⟨_,_,l,q⟩
  |cont=>obtain⟨σ',H2,m,q⟩:=G;exact d9 (v:=.non) (m.unheld I.ok.hd) hN hi hk λM l=>⟨_,_,l,q⟩
  |ret u=>obtain⟨v,σ',H2,m,rv,q⟩:=G;exact d9 (v:=.non) (m.unheld I.ok.hd) hN hi hk λM l=>⟨v,_,_,l,rv,q⟩
 ·exact wpAny_execs_nil (wpAny_execs_nil ⟨σ,H1,J,q1⟩)
end
section
variable {X:Cx}{CX:kC}{k:Nat}{C:Addr}{ps:NF}{sp:Sp}{m:Str}{pos apos:Pos}{e o:Expr}{es:NK}{t:TA}{ta:TE}
theorem sw{K:Nu}(hK:X.K=K):bc X (compareOp .NotIn) (JY K true):=hK▸vT
end
end L2
namespace CtM
open PySem PySem.Builtin PySem.Builtin.Str QL SpM
theorem rO(c:Nat):∀(x:Nw) (rows:List (List Nat)),rows≠[]->(x.foldl (SpM.step c) rows).length=rows.length+x.count c
 | [],rows,_=>by simp
 |d::x,rows,h=>by
  have h1:SpM.step c rows d≠[]:=by unfold SpM.step;split<;>simp
  rw[List.foldl_cons,rO c x _ h1,List.count_cons];unfold SpM.step
  by_cases e:d=c
  ·rw[q07 e];subst e;simp;omega
  ·rw[q06 e]
   have:0<rows.length:=List.length_pos_iff.mpr h;simp[e];omega
end CtM
namespace L2
open PySem PySem.Spec PyProof.Rows QL
section
variable {K:Nu}{g:TG}{ti:TT}{te:TE}{σ:St}{H:Hp}{Q:List V->Hp->Prop}{α:Type}
theorem AA{as:List α}{f:α->Option V}{i:Nat}{x:α}(hx:as[i]?=some x):(as.take (i+1)).filterMap f=(as.take i).filterMap f++(f x).toList:=by
 rw[q0D,hx,List.filterMap_append];show _++List.filterMap f [x]=_;cases h:f x<;>simp[h]
theorem H_{as:List α}{f:α->Option V}(i:Nat):((as.take i).filterMap f).length<=as.length:=M6 (List.length_filterMap_le _ _) (by rw[Nb];omega)
theorem kL{as:List α}(f:α->V):as.filterMap (λx=>some (f x))=as.map f:=by induction as with | nil=>rfl | cons x xs ih=>simp
theorem fF{as:List α}{emb:α->V}{f:α->Option V}(S:St->Prop)(h0:S σ)(hl:∀H',az H H'->aW K H' a (as.map emb))(hn:as.length<=1000000)
  (hs:∀(i:Nat) x,as[i]?=some x->∀σ H' (N1:V->St->Hp->Prop) (N0:St->Hp->Prop),S σ->az H H'->(∀v σ2 H2,f x=some v->az H H2->S σ2->N1 v σ2 H2)->(∀σ2 H2,f x=none->az H H2->S σ2->N0 σ2 H2) ->
   g (emb x) σ H' λσ2 H3=>ti σ2 H3 λb H4=>if b=true then te σ2 H4 λv H5=>N1 v σ2 H5 else N0 σ2 H4)
  (he:∀H',az H H'->Q (as.filterMap f) H'):jy (Fr K a) g ti te σ H Q:=by
 refine nO (xs:=as.map emb) (λi c σ H'=>az H H'/\c=(as.take i).filterMap f/\i<=as.length/\S σ) ⟨λ_ _ e=>e,rfl,MX _,h0⟩ ?_ ?_ ?_ ?_ ?_
 ·rintro i c σ H' ⟨_,rfl,_⟩
  have:=H_ (as:=as) (f:=f) i;exact bq ⋯
 ·rintro i c σ H' ⟨_,_,h,_⟩
  rw[MA];exact h
 ·rintro i c σ H' ⟨k,_⟩
  exact hl _ k
 ·rintro i x c σ H' l ⟨k,rfl,hi,n⟩
  have j:i<as.length:=by have:=(My.mp l).1;rwa [MA]at this
  rw[MC,Mx j]at l;cases l;have m:as[i]?=some as[i]:=Mx j;refine hs i as[i] m σ H' (λv σ2 H5=>_) (λσ2 H4=>_) n k (λv σ2 H2 hf s2 hS2=>⟨s2,?_,j,hS2⟩) (λσ2 H2 hf s2 hS2=>⟨s2,?_,j,hS2⟩)
  ·rw[AA m,hf];rfl
  ·rw[AA m,hf];simp
 ·rintro c σ H' ⟨k,rfl,_⟩
  have e:(as.take (as.map emb).length).filterMap f=as.filterMap f:=by rw[MA,Na]
  rw[e];exact he _ k
theorem py{n:Nat}{f:Nat->Option V}(S:St->Prop)(h0:S σ)(hn:n<=1000000)
  (hs:∀i,i<n->∀σ H' (N1:V->St->Hp->Prop) (N0:St->Hp->Prop),S σ->az H H'->(∀v σ2 H2,f i=some v->az H H2->S σ2->N1 v σ2 H2)->(∀σ2 H2,f i=none->az H H2->S σ2->N0 σ2 H2) ->
   g (.int (0+(i:Int))) σ H' λσ2 H3=>ti σ2 H3 λb H4=>if b=true then te σ2 H4 λv H5=>N1 v σ2 H5 else N0 σ2 H4)
  (he:∀H',az H H'->Q ((List.range n).filterMap f) H'):jy (CY 0 n) g ti te σ H Q:=by
 refine fD (lo:=0) (n:=n) (λi a σ H'=>az H H'/\a=(List.range i).filterMap f/\i<=n/\S σ) ⟨λ_ _ e=>e,rfl,MX _,h0⟩ ?_ ?_ ?_ ?_
 ·rintro i a σ H' ⟨_,rfl,c,_⟩
  have:=List.length_filterMap_le f (List.range i);rw[q0G]at this;exact bq ⋯
 ·rintro i a σ H' ⟨_,_,h,_⟩
  exact h
 ·rintro i a σ H' c ⟨j,rfl,_,k⟩
  refine hs i c σ H' (λv σ2 H5=>_) (λσ2 H4=>_) k j (λv σ2 H2 hf s2 hS2=>⟨s2,?_,c,hS2⟩) (λσ2 H2 hf s2 hS2=>⟨s2,?_,c,hS2⟩)
  ·rw[q0J,List.filterMap_append];simp[hf]
  ·rw[q0J,List.filterMap_append];simp[hf]
 ·rintro a σ H' ⟨j,rfl,_⟩
  exact he _ j
end
end L2
namespace ThM
open PySem L2
def dz(ks:NF)(z:Str):List Str:=if z∈ks then ks else ks++[z]
theorem mem_addNew{ks:NF}{z y:Str}:y∈dz ks z↔y∈ks\/y=z:=by
 unfold dz
 split
 ·rename_i h
  exact⟨.inl,λq=>q.elim id λe=>e▸h⟩
 ·rw[MM,MB]
section
variable {α:Type}(f:List α->List α)
def JD:Nat->List α->List α
 |0,s=>s
 |n+1,s=>f (JD n s)
variable {f}
end
abbrev NR:=Str×List Str
def FZ(ks:NF)(r:NR):List Str:=if(∀z∈r.2,z∈ks) then dz ks r.1 else ks
def Dg(rs:List NR)(ks:NF):List Str:=rs.foldl FZ ks
theorem nd_len{ks ms:NF}(hn:ks.Nodup)(h:∀z∈ks,z∈ms):ks.length<=ms.length:=by
 induction ks generalizing ms with
 |nil=>exact MX _
 |cons k ks ih=>
  rw[List.nodup_cons]at hn;have c:=h k q0B;have h1:=ih (ms:=ms.erase k) hn.2 λz b=>by
   have a:z≠k:=λe=>hn.1 (e▸b);exact(List.mem_erase_of_ne a).mpr (h z (MP _ b))
  have h2:=List.length_erase_of_mem c;have h3:=List.length_pos_of_mem c;rw[MK];omega
def Hn(rs:List NR):List Str:=JD (Dg rs) rs.length []
end ThM
namespace ThM
open PySem L2
theorem ni{y:Str}:∀(zs ks:NF),y∈zs.foldl dz ks↔y∈ks\/y∈zs
 | [],ks=>by simp
 |z::zs,ks=>by
  rw[List.foldl_cons,ni zs,mem_addNew,MO];exact⟨λh=>h.elim (λh=>h.elim .inl λe=>.inr (.inl e)) λh=>.inr (.inr h),λh=>h.elim (λh=>.inl (.inl h)) λh=>h.elim (λe=>.inl (.inr e)) .inr⟩
def Et(ks:NF)(r:NR):List Str:=if r.1∈ks then r.2.foldl dz ks else ks
def BO(rs:List NR)(ks:NF):List Str:=rs.foldl Et ks
def Io(ks:NF)(r:NR):Prop:=r.1∈ks/\∀z∈r.2,z∈ks
noncomputable instance (ks:NF)(r:NR):Decidable (Io ks r):=by unfold Io;infer_instance
def Ht(st:Str)(rs:List NR):List Str:=JD (BO rs) rs.length [st]
def GW(rs:List NR)(r:NR):Bool:=decide (∀z∈r.2,z∈Hn rs)
def JA(rs:List NR):List NR:=rs.filter (GW rs)
def Jx(st:Str)(rs:List NR):List Str:=Ht st (JA rs)
def keep(st:Str)(rs:List NR)(r:NR):Bool:=decide (r.1∈Jx st rs)&&GW rs r
end ThM
namespace L2
open PySem PySem.Spec PyProof.Rows
section
variable {X:Cx}{body:List Stmt}{h₀:ExceptHandler}{hs:List ExceptHandler}{tb:TS}{pos:Pos}
theorem xC(hb:wu X.nox body tb):PS X (.Try body (h₀::hs) [] [] pos) tb:=by
 intro a s σ H De I h;refine wpAny_Try_except ?_;refine q0S (hb a s σ H De (I.wish _) h) (λfl s1 q=>?_) λ_ _ f=>f.elim;have b:=SP.unwish q;cases fl with
 |next=>exact wpAny_execs_nil b
 |brk=>exact b
 |cont=>exact b
 |ret u=>exact b
theorem AM{ta:TE}{f:Str}{K:Nu}(hK:X.K=K)(he:PE X e ta)(hb:attributeBase e f X.env (eval e X.env)=eval e X.env):PE X (.Attribute e f pos) (FP K ta f):=hK▸bJ he hb
def jV(xs ys:List V):Bool:=(List.range (min xs.length ys.length)).all (λj=>match xs[j]?,ys[j]? with | some x,some y=>l9 x y | _,_=>true)&&xs.length==ys.length
def G2(K:Nu):R2:=λx y H Q=>∃a b xs ys,x=.ref a/\y=.ref b/\aZ K H a xs/\aZ K H b ys/\xs.all eM=true/\ys.all eM=true/\Q (.bl (jV xs ys)) H
theorem D3(hu:X.A.units+64<cLine):bc X (compareOp .Eq) (G2 X.K):=by
 intro pins s σ H x y v u Q I rx ry h;obtain⟨a,b,m,k,rfl,rfl,T,S,fx,Z,q⟩:=h;cases rx;cases ry
 obtain⟨g,C,M,_⟩:=I.tuple T;obtain⟨c,B,L,_⟩:=I.tuple S;have R:=C.length;have O:=B.length
 have J:=SeqAt.RcAt.tuples (A:=X.A) (s:=s) (e:=λj=>match m[j]?,k[j]? with | some x,some y=>l9 x y | _,_=>true) (show s.heap.IsTuple a g.toArray from M) (show s.heap.IsTuple b c.toArray from L) ⋯ (λj Y U=>by
  have w:j<g.length:=by simpa using Y
  have r:j<c.length:=by simpa using U
  have n:m[j]?=some m[j]:=Mx ⋯;have l:k[j]?=some k[j]:=Mx ⋯;obtain⟨w1,G,p⟩:=C.get n;obtain⟨w2,D,o⟩:=B.get l;rw[Mx w]at G;rw[Mx r]at D;cases G;cases D
  simp only[Nj,n,l];exact fU p o (Nh.mp fx _ (MD n)) (Nh.mp Z _ (MD l)))
 refine J _ _ _ _ ⟨.bl _,H,I,rfl,?_⟩;rw[MG,MG,<- R,<- O];exact q
end
section
variable {X:Cx}{es:NK}{t:TA}{te:TE}
end
end L2
namespace L2
open PySem PySem.Spec PyProof.Rows
end L2
namespace L2
open PySem PySem.Spec PyProof.Rows QL
theorem az.sqT{K:Nu}(e:az H H')(h:aZ K H a xs):aZ K H' a xs:=by
 rcases h with(h | ⟨o,h⟩) | h
 ·exact .inl (.inl (e _ _ h))
 ·exact .inl (.inr ⟨o,e _ _ h⟩)
 ·exact .inr h
section
variable {K:Nu}{g:TG}{tb:TS}{D:iJ}{σ:St}{H:Hp}
theorem Eb{xs:List V}(Pv:Nat->St->Hp->Prop)(h0:Pv 0 σ H)(hl:∀i σ H,i<=xs.length->Pv i σ H->aW K H a xs)
  (hs:∀i x σ H,i<xs.length->xs[xs.length-1-i]?=some x->Pv i σ H->g x σ H λσ2 H2=>tb {D with nx:=Pv (i+1),ct:=Pv (i+1),bk:=D.nx} σ2 H2) (hd:∀σ H,Pv xs.length σ H->D.nx σ H):vW (IC K a xs.length) g tb D σ H:=by
 refine⟨λi m σ H=>Pv i σ H/\i<=xs.length/\m=xs.length+1-i,⟨_,h0,MX _,rfl⟩,?_⟩;rintro i m σ' H' ⟨w,c,rfl⟩;rcases Nat.lt_or_ge i xs.length with b | hge
 ·refine .inr ⟨⟨xs,xs[xs.length-1-i]'⋯,hl _ _ _ c w,b,Mx ⋯⟩,Pv (i+1),λσ2 H2 w2=>⟨xs.length+1-(i+1),⋯,w2,b,rfl⟩,λx H2 y=>?_⟩
  obtain⟨rfl,j⟩:=y;exact hs i x σ' H2 b (j xs (hl _ _ _ c w)) w
 ·have e:i=xs.length:=by omega
  subst e;exact .inl ⟨rfl,hd _ _ w⟩
end
def dX(H H':Hp):Prop:=∀b xs,H b=some (.tup xs)->H' b=some (.tup xs)
theorem dX.of(s:az H H'):dX H H':=λb xs h=>s b _ h
mutual
def cE(H:Hp):Dt->V->Prop
 | .int i,v=>v=.int i
 | .tup ds,v=>∃a xs,v=.ref a/\H a=some (.tup xs)/\aP H ds xs
 |_,_=>False
def aP(H:Hp):List Dt->List V->Prop
 | [],xs=>xs=[]
 |d::ds,xs=>∃x r,xs=x::r/\cE H d x/\aP H ds r
end
mutual
theorem cE.up(e:dX H H'):∀(d:Dt) {v:V},cE H d v->cE H' d v
 | .int i,v,h=>by unfold cE at h ⊢;exact h
 | .tup ds,v,h=>by unfold cE at h ⊢;obtain⟨a,xs,r,hs,hd⟩:=h;exact⟨a,xs,r,e _ _ hs,aP.up e ds hd⟩
 | .non,v,h=>by unfold cE at h;exact h.elim
 | .bl b,v,h=>by unfold cE at h;exact h.elim
 | .str x,v,h=>by unfold cE at h;exact h.elim
 | .lst ds,v,h=>by unfold cE at h;exact h.elim
theorem aP.up(e:dX H H'):∀(ds:List Dt) {xs:List V},aP H ds xs->aP H' ds xs
 | [],xs,h=>by unfold aP at h ⊢;exact h
 |d::ds,xs,h=>by unfold aP at h ⊢;obtain⟨x,r,e0,h1,h2⟩:=h;exact⟨x,r,e0,cE.up e d h1,aP.up e ds h2⟩
end
theorem aP.cons{H:Hp}{d:Dt}{ds:List Dt}{x:V}{xs:List V}(h:cE H d x)(t:aP H ds xs):aP H (d::ds) (x::xs):=by unfold aP;exact⟨x,xs,rfl,h,t⟩
theorem aP.nil:aP H [] []:=by unfold aP;rfl
theorem aP.uncons{d:Dt}{ds:List Dt}{xs:List V}(h:aP H (d::ds) xs):∃x r,xs=x::r/\cE H d x/\aP H ds r:=by unfold aP at h;exact h
theorem aP.length:∀{ds:List Dt} {xs:List V},aP H ds xs->xs.length=ds.length
 | [],_,h=>by unfold aP at h;rw[h];rfl
 |d::ds,xs,h=>by
  obtain⟨x,r,rfl,_,h2⟩:=h.uncons;simp[aP.length h2]
theorem aP.app:∀{ds es:List Dt} {xs ys:List V},aP H ds xs->aP H es ys->aP H (ds++es) (xs++ys)
 | [],es,xs,ys,h,k=>by unfold aP at h;subst h;exact k
 |d::ds,es,xs,ys,h,k=>by
  obtain⟨x,r,rfl,h1,h2⟩:=h.uncons;exact aP.cons h1 (aP.app h2 k)
theorem cE.node{H:Hp}{i:Int}{ds:List Dt}{xs:List V}(h:H a=some (.tup (V.int i::xs)))(t:aP H ds xs):cE H (.tup (.int i::ds)) (.ref a):=by
 unfold cE;exact⟨a,_,rfl,h,aP.cons (by unfold cE;rfl) t⟩
theorem wD:∀{ns:List Int} {us:Nz},bo (ns.map V.int) us->∃ps:List (Int×Tok),us.toArray=intItems ps.toArray/\ps.map (·.1)=ns
 | [],us,r=>⟨[],by have:=r.zero;subst this;simp[intItems],rfl⟩
 |n::ns,us,r=>by
  cases r with
  |cons h t=>
   obtain⟨tk,rfl⟩:=h;obtain⟨ps,e1,e2⟩:=wD t;refine⟨(n,tk)::ps,?_,by rw[M5,e2]⟩;have:=q0O Array.toList e1;unfold intItems at this ⊢;simp at this ⊢;exact this
section
variable {X:Cx}
theorem nV(hc:X.calm=true):g_ X (.builtin "sum") (λxs H Q=>∃(p:Addr) (ns:List Int),xs=[.ref p]/\aW X.K H p (ns.map V.int)/\Q (.int ns.sum) H):=by
 intro pins s σ H xs us Q I r h;obtain⟨p,ns,rfl,g,q⟩:=h;obtain⟨u,rfl,c⟩:=r.one;cases c;obtain⟨its,b,e,_⟩:=I.list g;obtain⟨ps,m,l⟩:=wD b;refine sum_intListG (xs:=ps.toArray) (I.ok.hd hc) (by rw[<- m];exact e.isList) λh' a t' j=>?_;have k:preSum (numAt ps.toArray) ps.toArray.size=ns.sum:=by
  rw[preSum_eq,q0E (by simp),<- l]
 rw[k];exact⟨.int _,H,I.kept (t':=a) j,⟨_,rfl⟩,q⟩
theorem y6:bootBuiltins "sum"=some (.builtin "sum"):=by decide +kernel
end
end L2
namespace L2
open PySem PySem.Spec PyProof.Rows QL bN
theorem C4{α β:Type}{g:α->β}:∀(l:List α) (f':α->Option β),(∀k∈l,f' k=some (g k))->l.filterMap f'=l.map g
 | [],_,_=>rfl
 |a::l,f',h=>by
  rw[q0Q,h a q0B,M5,C4 l f' λk hk=>h k (MP _ hk)]
section
variable {X:Cx}
def Dm(K:Nu):R2:=λx y H Q=>∃a b xs ys,x=.ref a/\y=.ref b/\aZ K H a xs/\aZ K H b ys/\xs.length+ys.length<=sizeLine/\∀p H',aZ K H' p (xs++ys)->az H H'->Q (.ref p) H'
theorem As:bc X (binaryOp .Add) (Dm X.K):=by
 intro c s σ H x y v u Q I rx ry h;obtain⟨a,b,B,L,rfl,rfl,r,o,U,q⟩:=h
 by_cases C:B=[]
 ·subst C
  cases rx;cases ry;obtain⟨m,O,S,_⟩:=I.tuple r;obtain⟨its2,r2,R,_⟩:=I.tuple o;have Z:m=[]:=O.zero;subst Z;obtain⟨⟨cls,dd,data,M⟩,D,J,n,G⟩:=id S;obtain⟨⟨cls2,w,data2,l⟩,g,k,T,j⟩:=id R;simp only at J G k j;subst J G k j;exact concat_meets ⟨_,D,rfl⟩ ⟨_,g,rfl⟩ noFill_tuple_add seq_tuple_add PySem.F.slot_tuple_add PySem.F.entry_tuple_add (PySem.F.args_tuple_add_2 _ _)
   (tuple_addW0 a b _ _ n T dd w M l (by rfl)) ⟨D,g,⟨.ref b,H,I,rfl,q b H (by rw[Nk];exact o) (az.refl _)⟩⟩
 ·refine cB c s σ H _ _ v u Q I rx ry ⟨a,b,B,L,rfl,rfl,r,o,C,U,λe=>?_,λ_ p Y=>q p _ (aZ.of ad) (ae Y)⟩
  refine q a H ?_ (az.refl _);rw[e,M9];exact r
variable {e st:Expr}{te ts:TE}{p2 pos:Pos}
end
abbrev mP(a:Addr):Obj:={cls:=.type "tuple_iterator",data:=.fields #[.ref a,.int 0 0]}
abbrev vf(a:Addr):Obj:={cls:=.type "enumerate",data:=.fields #[.none,.bool false,.ref a,rawInt 0,.none,.none]}
set_option tactic.hygienic true in
theorem BB(a:Addr)(us:Array Value)(n:Nat)(dd:NJ)(ss:Array (Option Value)) :
  Meets (Builtin.«enumerate.__new__» ⟨[.type "enumerate",.ref a],[]⟩) (λ_ R s=>s.heap.get? a=some {cls:=.type "tuple",dict:=dd,data:=.seq us n,slots:=ss} /\
   R (.ok (.ret (.ref (s.heap.push (mP a)).objs.size))) {s with heap:=(s.heap.push (mP a)).push (vf s.heap.objs.size)}):=
 .of_wp λprog w A R s h=>by
  obtain⟨h0,g0,d0,t0,o0⟩:=s;obtain⟨ea,h⟩:=h;have sb:=sub_enumerate;have isT:Heap.IsTuple (Shared.heap ⟨h0,g0,d0,t0,o0⟩) a us:=⟨_,ea,rfl,n,rfl⟩
  wp_walk using AutoSeq1.wpAny_loadPart' ea
  refine wpAny_stack_any λ_=>q05 ?_
  split
  ·rename_i cc _ _ _ _ _
   cases(cc==Value.type "enumerate")
   ·wp_walk using AutoSeq1.wpAny_loadPart' ea,wpAny_pyIter_tuple isT
    exact⟨_,rfl,h⟩
   ·wp_walk using AutoSeq1.wpAny_loadPart' ea,wpAny_pyIter_tuple isT
    exact⟨_,rfl,h⟩
  ·wp_walk using AutoSeq1.wpAny_loadPart' ea,wpAny_pyIter_tuple isT
   exact⟨_,rfl,h⟩
section
variable {prog:NE}{w:NH}{A:NG}{E:Nt}{s:Ny}
theorem yu{Q:Nt}(ha:s.heap.IsTuple a us)
  (h:∀h',IsEnum h' (s.heap.objs.size+1) s.heap.objs.size 0 .none->h'.IsTupleIter s.heap.objs.size a 0->(∀b o,s.heap.get? b=some o->h'.get? b=some o)->Q (.ref (s.heap.objs.size+1)) {s with heap:=h' }) :
  wpAny (model prog w) A (call (.type "enumerate") [.ref a]) Q E s:=by
 obtain⟨⟨c,p,dt,k⟩,m,j,n,g⟩:=ha;simp only at j g;subst j g;refine callType_new F.called_enumerate nofun (F.typeCall_enumerate_1 _) (F.newCall_enumerate_1 _) (λl=>F.args_object_init_2 l _) F.entry_enumerate_new (BB a us n p k) ⟨m,?_⟩;have sz:(s.heap.push (mP a)).objs.size=s.heap.objs.size+1:=Heap.size_push ..;show _/\_;rw[sz];have e:IsEnum ((s.heap.push (mP a)).push (vf s.heap.objs.size)) (s.heap.objs.size+1) s.heap.objs.size 0 .none:=by
  have q:=MF (s.heap.push (mP a)) (o:=vf s.heap.objs.size) rfl;rw[sz]at q;exact q
 exact⟨⟨_,e,rfl⟩,h _ e ⟨_,Mz _ (MF _ rfl),rfl,rfl⟩ λb o q=>Mz _ (Mz _ q)⟩
theorem y9{i:Nat}{x:Value}{Q:Nt}(ii:s.heap.IsTupleIter i0 a i)(ha:s.heap.IsTuple a us)(hx:us[i]?=some x)
  (q:∀h',h'.IsTupleIter i0 a (i+1)->Heap.SameBut i0 s.heap h'->Q x {s with heap:=h' }):wpAny (model prog w) A (Builtin.SmallTypes.nextOf (.ref i0)) Q E s:=by
 obtain⟨oi,c,j,b⟩:=id ii;obtain⟨oa,e,_,na,g⟩:=ha;unfold Builtin.SmallTypes.nextOf;refine q04 (wpAny_callSpecial?_slot (name:=Str.ofString "__next__") ii.typeIs F.slot_tuple_iterator_next (wpAny_call_entry F.slot_tuple_iterator_next ii.typeIs F.entry_tuple_iterator_next ?_ (F.args_tuple_iterator_next_1 _)));show wpAny _ _ (field (.ref i0) 0 >>= _) _ _ s;refine q04 (wpAny_field c b (x:=.ref a) rfl ?_);show wpAny _ _ (if(Value.ref a==Value.none)=true then _ else _) _ _ s;rw[q06 (show ¬ ((Value.ref a==Value.none)=true) from MY)];show wpAny _ _ (field (.ref i0) 1 >>= _) _ _ s;refine q04 (wpAny_field c b (x:=.int i 0) rfl ?_);show wpAny _ _ (seqItems? (.ref a) >>= _) _ _ s;refine q04 (wpAny_seqItems e g ?_);simp only[MI,hx];refine q04 (wpAny_setField c b (by simp) (q05 ⟨x,rfl,q05 (q _ ?_ (Heap.SameBut.update ..))⟩));exact⟨_,MJ _ c (Obj.isFreed_of_fields (Obj.data_mapFields b _)),(Obj.cls_mapFields ..).trans j,by rw[Obj.data_mapFields b];simp[rawInt]⟩
theorem Cj{i:Nat}{Q:Nt}(hh:A.handled=none)(ii:s.heap.IsTupleIter i0 a i)(ha:s.heap.IsTuple a us)(hx:us[i]?=none)
  (q:∀h' e,Heap.ExtBut i0 s.heap h'->(∃o,h'.get? e=some o/\o.cls=.type "StopIteration")->E (.ref e) {s with heap:=h' }):wpAny (model prog w) A (Builtin.SmallTypes.nextOf (.ref i0)) Q E s:=by
 obtain⟨oi,b,ci,c⟩:=id ii;obtain⟨oa,g,_,na,j⟩:=ha;unfold Builtin.SmallTypes.nextOf;refine q04 (wpAny_callSpecial?_slot (name:=Str.ofString "__next__") ii.typeIs F.slot_tuple_iterator_next (wpAny_call_entry F.slot_tuple_iterator_next ii.typeIs F.entry_tuple_iterator_next ?_ (F.args_tuple_iterator_next_1 _)));show wpAny _ _ (field (.ref i0) 0 >>= _) _ _ s;refine q04 (wpAny_field b c (x:=.ref a) rfl ?_);show wpAny _ _ (if(Value.ref a==Value.none)=true then _ else _) _ _ s;rw[q06 (show ¬ ((Value.ref a==Value.none)=true) from MY)];show wpAny _ _ (field (.ref i0) 1 >>= _) _ _ s;refine q04 (wpAny_field b c (x:=.int i 0) rfl ?_);show wpAny _ _ (seqItems? (.ref a) >>= _) _ _ s;refine q04 (wpAny_seqItems g j ?_);simp only[MI,hx];refine q04 (wpAny_rule (q04 (wpAny_setField b c (by simp) ?_)));show wpAny _ _ (newExc (.type "StopIteration") [] >>= _) _ _ _;refine q04 ?_;simp only[newExc,newTuple];refine q04 (wpAny_newObj_type ?_ (by size_fits));refine q04 (m:=firstArgMember _ _) (wpAny_of_eq (a:=Value.none) (by first | rfl | (simp only[firstArgMember];rfl)) ?_);refine wpAny_newObj_type ?_ (by size_fits);simp only[raiseNew];refine q04 (wpAny_handled ?_)
 first | rw[show A.in1.handled=none from hh] | rw[hh]
 refine q04 (q05 (wpAny_throw ?_));exact q _ _ (((Heap.SameBut.update ..).extBut.push _).push _) ⟨_,MF _ rfl,rfl⟩
end
theorem D_{prog:NE}{A:NG}(hh:A.handled=none)(i0 a:Addr)(hne:a≠i0)(us:Array Value) :
  Draws prog w A i0 [i0,a] us.size (λi v=>us[i]?=some v) (λi h=>h.IsTupleIter i0 a i/\h.IsTuple a us) where
 live:=λ_ _ st=>let ⟨o,ho,_⟩:=st.1;⟨o,ho⟩
 frame:=λ_ _ _ st kp=>⟨by obtain⟨o,ho,r⟩:=st.1;exact⟨o,kp i0 (by simp) o ho,r⟩,by obtain⟨o,ho,r⟩:=st.2;exact⟨o,kp a (by simp) o ho,r⟩⟩
 item:=λi s Q E hi st q=>by
  refine y9 st.1 st.2 (x:=us[i]) (by simp[hi]) λh' i1 sb=>?_;refine q _ h' s.toks (by simp[hi]) ⟨i1,?_⟩ sb;obtain⟨o,ho,r⟩:=st.2;exact⟨o,(sb.2 a hne).trans ho,r⟩
 done:=λs Q E st q=>Cj hh st.1 st.2 (by simp) q
def Hw(K:Nu)(a:Addr):It:=
 ⟨λi H=>∃xs x,aZ K H a xs/\xs[i]?=some x,λi H v H'=>∃T x,v=.ref T/\H T=none/\H'=ay H T (.tup [.int (i:Int),x])/\∀xs,aZ K H a xs->xs[i]?=some x,λi H=>∃xs,aZ K H a xs/\xs.length=i⟩
theorem yk{K:Nu}{elts:NK}{tp:Pos}{e it l:Addr}(hei:e≠it)(hel:l≠e)(hil:l≠it) :
  rG P w K (.Tuple elts x1 tp) (Hw K l) [e,it] e (λi h=>(∃old,IsEnum h e it i old)/\h.IsTupleIter it l i) where
 mem:=by simp
 obj:=λi h j b C=>by
  obtain⟨⟨old,g⟩,⟨O,J,c1,d1⟩⟩:=j;simp only[MO,List.not_mem_nil,or_false]at C;rcases C with rfl | rfl
  ·exact⟨_,g,λv q=>by cases q⟩
  ·exact⟨_,J,λv q=>by rw[d1]at q;cases q⟩
 keep:=λi h h' j B=>by
  obtain⟨⟨old,g⟩,⟨O,J,r⟩⟩:=j;exact⟨⟨old,B e (by simp) _ g⟩,⟨O,B it (by simp) _ J,r⟩⟩
 item:=by
  intro X Y T Z k i G s σ H E I hf j hg;subst Y T Z;obtain⟨xs,x,L,S⟩:=hg;obtain⟨a,M,p,hz⟩:=I.tuple L;obtain⟨u,hu,ru⟩:=M.get S;obtain⟨⟨old,g⟩,h1⟩:=j;obtain⟨O,J,_⟩:=id h1;have D:=D_ (prog:=X.prog) (w:=X.w) (A:=X.A.in1) (I.ok.hd k) it l hil a.toArray;have n:i<a.toArray.size:=by rw[MG];exact(My.mp hu).1
  refine wpAny_pyNext_enum_itemD D g ⟨h1,p⟩ n hei (by simp[hei,Ne.symm hel]) λv h' tk hv a1 a2 a3 a4 B=>?_;have ev:v=u:=by
   have:a[i]?=some v:=by simpa using hv
   rw[hu]at this;exact(q0P this).symm
  subst ev;refine⟨_,rfl,wpAny_letOwnedTupleGo_enum a1 λh2 U m=>?_⟩;have y:H s.heap.objs.size=none:=I.hok.fresh (MW _);have lt:∀{c o},s.heap.get? c=some o->s.heap.objs.size≠c:=λe=>Nat.ne_of_gt (MZ e);have kk:∀c o,c∉[e,it]->s.heap.get? c=some o->h2.get? c=some o:=λc o k q=>
   m.extBut _ _ (λz=>k (by simp[z])) (B c o (λz=>k (by simp[z])) (λz=>k (by simp[z])) q)
  have hT:h2.get? s.heap.objs.size=some {cls:=.type "tuple",data:=.seq #[.int i tk,v]}:=m.extBut _ _ (lt g) a3;refine⟨.ref s.heap.objs.size,ay H s.heap.objs.size (.tup [.int i,x]),I.movedT (tk:=tk+1) hf kk (MW _) ⟨show 2<=sizeLine from by decide +kernel,[.int i tk,v],.cons ⟨_,rfl⟩ (.cons ru .nil),_,hT,rfl,_,rfl⟩,rfl,
   ⟨_,x,rfl,y,rfl,λzs R=>by rw[I.tuple_inj R L];exact S⟩,⟨⟨v,by simpa using U⟩,?_⟩,λb C=>?_⟩
  ·obtain⟨o2,e2,r⟩:=a2.1
   exact⟨o2,m.extBut _ _ (Ne.symm hei) e2,r⟩
  have n:b≠s.heap.objs.size:=by
   simp only[MO,List.not_mem_nil,or_false]at C;rcases C with rfl | rfl
   ·exact(lt g).symm
   ·exact(lt J).symm
  rw[ao n];exact(hf b C).1
 done:=by
  intro X Y T Z k i G s σ H E I hf j hg;subst Y T Z;obtain⟨xs,L,S⟩:=hg;obtain⟨a,M,p,hz⟩:=I.tuple L;obtain⟨⟨old,g⟩,h1⟩:=j;have l1:=M.length;have D:=D_ (prog:=X.prog) (w:=X.w) (A:=X.A.in1) (I.ok.hd k) it l hil a.toArray;have ei:i=a.toArray.size:=by rw[MG];omega
  subst ei;exact wpAny_pyNext_enum_endD D g ⟨h1,p⟩ λh' B=>⟨rfl,I.moved (tk:=s.toks) hf λc o k e=>B c o (λq=>k (by simp[q])) e⟩
 self:=λ_ _ _ _ _ j h=>let ⟨⟨_,g⟩,_⟩:=j;wpAny_pyIter_enum g h
def yg(K:Nu)(ta:TA):TI:=λσ H R=>ta σ H λvs H1=>∃a xs,vs=[.ref a]/\aZ K H1 a xs/\R (Hw K a) H1
section
variable {X:Cx}{elts:NK}{x1:Nat}{tp:Pos}
theorem EJ{a:Expr}{ta:TA}{p pos:Pos}(hg:Gl X "enumerate")(hm:X.mg "enumerate"=none)(ha:PA X [a] ta)(hs:autoParam (starEach [a] X.env=[(false,eval a X.env)]) zz0._auto_1):PI X (.Tuple elts x1 tp) (.Call (.Name "enumerate" p) [a] [] pos) (yg X.K ta):=by
 intro c s σ H R I h;refine Call_ (fC I hg hm boot_enumerate (PyProof.Rows.callWith_type1 (bV (ha pos c s σ H _ I h) λus g ⟨vs,w,m,B,C⟩=>?_) (by rw[hs];rfl) (by rfl)));obtain⟨l,xs,rfl,D,q⟩:=C;obtain⟨u,rfl,y⟩:=B.one;cases y;obtain⟨its,rv,r,_⟩:=m.tuple D;have j:l<g.heap.objs.size:=by obtain⟨o,e,_⟩:=r;exact MZ e
 refine yu r λJ n x G=>?_;have L:Inv X c σ w {g with heap:=J }:=m.kept (t':=g.toks) G;refine wpAny_pyIter_enum n ?_;refine⟨g.heap.objs.size+1,[g.heap.objs.size+1,g.heap.objs.size],_,_,w,rfl,L,yk (l:=l) (Nat.ne_of_gt (M8 _)) (MS (Nat.lt_succ_of_lt j)) (MS j),⟨⟨_,n⟩,x⟩,λb v=>?_,q⟩;have k:g.heap.objs.size<=b:=by
  simp only[MO,List.not_mem_nil,or_false]at v;rcases v with e | e<;>(rw[e];first | exact MW _ | exact Nat.le_add_right _ _)
 exact m.fpOk k (m.hok.fresh k)
end
section
variable {K:Nu}{g:TG}{tb:TS}{D:iJ}{σ:St}{H:Hp}
theorem zk{xs:List V}(Pv:Nat->St->Hp->Prop)(h0:Pv 0 σ H)(hl:∀i σ H,i<=xs.length->Pv i σ H->aZ K H a xs)
  (hs:∀(i:Nat) x σ H T,xs[i]?=some x->Pv i σ H->H T=none->g (.ref T) σ (ay H T (.tup [.int (i:Int),x])) λσ2 H2=>tb {D with nx:=Pv (i+1),ct:=Pv (i+1),bk:=D.nx} σ2 H2) (hd:∀σ H,Pv xs.length σ H->D.nx σ H):vW (Hw K a) g tb D σ H:=by
 refine⟨λi m σ H=>m=xs.length-i/\i<=xs.length/\Pv i σ H,⟨xs.length,by simp,MX _,h0⟩,?_⟩;rintro i m σ H ⟨rfl,c,p⟩;have q:=hl i σ H c p
 by_cases b:i<xs.length
 ·refine .inr ⟨⟨xs,xs[i],q,by simp[b]⟩,Pv (i+1),λσ' k p'=>⟨xs.length-(i+1),⋯,rfl,b,p'⟩,λx k y=>?_⟩
  obtain⟨T,x,rfl,j,rfl,y⟩:=y;exact hs i x σ _ T (y xs q) p j
 ·have e:i=xs.length:=by omega
  subst e;exact .inl ⟨⟨xs,q,rfl⟩,hd σ H p⟩
end
section
variable {prog:NE}{w:NH}{A:NG}{E:Nt}{s:Ny}
open HT in
theorem gb{t sl:Addr}{items:Array Value}{vl vu:Value}{lo hi:Option Int}{Q:Nt}(ht:IsTup s.heap t items)(hs:s.heap.IsSliceOf sl vl vu .none)(pl:IsPart vl lo)(pu:IsPart vu hi)
  (hw:sIx items.size 0 lo=0/\sIx items.size items.size hi=items.size) (h:Q (.ref t) s):wpAny (model prog w) A (getItem (.ref t) (.ref sl)) Q E s:=by
 obtain⟨g,b,c,hds⟩:=id hs;have e:s.TypeIs (.ref sl) "slice":=⟨g,b,c⟩;unfold getItem
 try with_reducible refine q0T ?_
 first | refine q04 (q05 ?_) | skip
 refine q04 (wpAny_sequenceKey ht.typeIs nofun ?_);refine q04 (wpAny_callSpecial?_slot (name:=Str.ofString "__getitem__") ht.typeIs PyProof.Rows.slot_tuple_getitem
  (wpAny_call_entry PyProof.Rows.slot_tuple_getitem ht.typeIs entry_tuple_getitem ?_ (args_tuple_getitem _ _)))
 show wpAny _ _ (Builtin.Tuple.tupleItemsOf (.ref t) >>= _) _ _ s;refine q04 (tupleItemsOf_ ht ?_);refine q04 (wpAny_typeOf e ?_);rw[q07 nofun];refine q04 (iL hs pl pu ?_);have a:(((sIx items.size 0 lo:Nat):Int)==0&&(1:Int)==1&&(sIx items.size items.size hi-sIx items.size 0 lo)==items.size)=true:=by
  rw[hw.1,hw.2];simp
 show wpAny _ _ (if(((sIx items.size 0 lo:Nat):Int)==0&&(1:Int)==1&&(sIx items.size items.size hi-sIx items.size 0 lo)==items.size)=true then _ else _) _ _ s;rw[q07 a];refine q04 ?_;unfold Builtin.Tuple.tupleIsExact;refine q04 (wpAny_typeOf ht.typeIs ?_);refine q05 ?_;rw[q07 nofun];refine q04 (wpAny_rule ?_);exact q05 ⟨_,rfl,q05 h⟩
end
def G3(K:Nu):V->Option Int->Option Int->Hp->VK->Prop:=λx lo hi H Q=>∃a xs,x=.ref a/\aZ K H a xs/\∀p H',aZ K H' p (fW xs lo hi)->az H H'->Q (.ref p) H'
section
variable {X:Cx}
theorem Fy:Ii X (G3 X.K):=by
 intro pins s σ H x v vl vu lo hi sl Q I rx hs pl pu h;obtain⟨a,g,rfl,n,q⟩:=h;cases rx;obtain⟨k,r,l,m⟩:=I.tuple n;have c:k.toArray.size=g.length:=by rw[MG];exact r.length.symm
 refine⟨"tuple",_,PyProof.Rows.slot_tuple_getitem.lookup,l.typeIs,?_⟩
 by_cases j:HT.sIx g.length 0 lo=0/\HT.sIx g.length g.length hi=g.length
 ·refine gb l hs pl pu (by rw[c];exact j) ?_
  refine⟨.ref a,H,I,rfl,q a H ?_ (az.refl _)⟩;have e:fW g lo hi=g:=by unfold fW;rw[j.1,j.2,Nr,Nat.sub_zero,Na]
  rw[e];exact n
 ·refine HT.getItem_tuple_cut l hs pl pu (by rw[c];exact j) ?_ (by rw[c];exact m)
  rw[c];refine⟨.ref s.heap.objs.size,_,I.laid (t':=s.toks) (o:=.tup (fW g lo hi)) (λb ob q=>Mz _ q) (MW _) ?_,rfl,q _ _ (aZ.of ad) (ae (I.hok.fresh (MW _)))⟩;exact⟨M6 (ic g lo hi) m,_,(r.drop (HT.sIx g.length 0 lo)).take (HT.sIx g.length g.length hi-HT.sIx g.length 0 lo),IsTup.new _ _⟩
end
def G1(K:Nu):V->Option Int->Option Int->Hp->VK->Prop:=λx lo hi H Q=>∃a xs,x=.ref a/\H a=some (.tup xs)/\∀p H',H' p=some (.tup (fW xs lo hi))->az H H'->Q (.ref p) H'
section
variable {X:Cx}
theorem mQ:Ii X (G1 X.K):=by
 intro pins s σ H x v vl vu lo hi sl Q I rx hs pl pu h;obtain⟨a,c,rfl,j,q⟩:=h;have p:aZ X.K H a c:=aZ.of j;cases rx;obtain⟨l,r,m,n⟩:=I.tuple p;have g:l.toArray.size=c.length:=by rw[MG];exact r.length.symm
 refine⟨"tuple",_,PyProof.Rows.slot_tuple_getitem.lookup,m.typeIs,?_⟩
 by_cases k:HT.sIx c.length 0 lo=0/\HT.sIx c.length c.length hi=c.length
 ·refine gb m hs pl pu (by rw[g];exact k) ?_
  refine⟨.ref a,H,I,rfl,q a H ?_ (az.refl _)⟩;have e:fW c lo hi=c:=by unfold fW;rw[k.1,k.2,Nr,Nat.sub_zero,Na]
  rw[e];exact j
 ·refine HT.getItem_tuple_cut m hs pl pu (by rw[g];exact k) ?_ (by rw[g];exact n)
  rw[g];refine⟨.ref s.heap.objs.size,_,I.laid (t':=s.toks) (o:=.tup (fW c lo hi)) (λb ob q=>Mz _ q) (MW _) ?_,rfl,q _ _ ad (ae (I.hok.fresh (MW _)))⟩;exact⟨M6 (ic c lo hi) n,_,(r.drop (HT.sIx c.length 0 lo)).take (HT.sIx c.length c.length hi-HT.sIx c.length 0 lo),IsTup.new _ _⟩
end
theorem Jy{P:Addr->Prop}:(∃p,V.ref a=V.ref p/\P p)=P a:=by simp
theorem Ju{a:Int}{P:Int->Prop}:(∃p,V.int a=V.int p/\P p)=P a:=by simp
theorem JH{P:Bool->Prop}:(∃p,V.bl a=V.bl p/\P p)=P a:=by simp
theorem Js{P:Str->Prop}:(∃p,V.str a=V.str p/\P p)=P a:=by simp
theorem JE{α:Type}{P:Addr->α->Prop}:(∃p,∃x,V.ref a=V.ref p/\P p x) = ∃x,P a x:=by simp
theorem Jo{α:Type}{P:Addr->α->Prop}:(∃p,∃x,[V.ref a]=[V.ref p]/\P p x) = ∃x,P a x:=by simp
theorem Jk{α:Type}{v:V}{P:Addr->α->V->Prop}:(∃p,∃x,∃y,V.ref a=V.ref p/\[v]=[y]/\P p x y) = ∃x,P a x v:=by simp
theorem JL{α β:Type}{P:Addr->Addr->α->β->Prop}:(∃p,∃q,∃x,∃y,V.ref a=V.ref p/\V.ref b=V.ref q/\P p q x y) = ∃x,∃y,P a b x y:=by simp
def Jh(i:Nat):TE:=λσ H Q=>match σ[i]? with
 |some (some v)=>Q v H
 |_=>False
def F9(g:Int->Int->V):R2
 | .int i,.int j,H,Q=>Q (g i j) H
 |x,y,H,Q=>BA g x y H Q
def Jc(C:Int->Int->Prop)(g:Int->Int->V):R2
 | .int i,.int j,H,Q=>C i j/\Q (g i j) H
 |x,y,H,Q=>rI C g x y H Q
def AL(K:Nu):R2
 | .ref p,.int i,H,Q=>∃xs,aW K H p xs/\∃v,gZ xs i=some v/\Q v H
 |x,y,H,Q=>Fb K x y H Q
def Aw(K:Nu):R2
 | .ref p,.int i,H,Q=>∃xs,aZ K H p xs/\∃v,gZ xs i=some v/\Q v H
 |x,y,H,Q=>B2 K x y H Q
theorem Dx:F9 g x y H Q=BA g x y H Q:=by
 unfold F9;split
 ·simp[BA]
 ·rfl
theorem GH:Jc C g x y H Q=rI C g x y H Q:=by
 unfold Jc;split
 ·simp[rI]
 ·rfl
theorem Ad{K:Nu}:AL K x y H Q=Fb K x y H Q:=by
 unfold AL;split
 ·simp[Fb]
 ·rfl
theorem AU{K:Nu}:Aw K x y H Q=B2 K x y H Q:=by
 unfold Aw;split
 ·simp[B2]
 ·rfl
theorem Gp{i j:Int}{H:Hp}:F9 g (.int i) (.int j) H Q=Q (g i j) H:=rfl
theorem HH{i j:Int}{H:Hp}:Jc C g (.int i) (.int j) H Q=(C i j/\Q (g i j) H):=rfl
theorem DZ{K:Nu}{i:Int}{H:Hp}:AL K (.ref p) (.int i) H Q = ∃xs,aW K H p xs/\∃v,gZ xs i=some v/\Q v H:=rfl
theorem E2{K:Nu}{i:Int}{H:Hp}:Aw K (.ref p) (.int i) H Q = ∃xs,aZ K H p xs/\∃v,gZ xs i=some v/\Q v H:=rfl
theorem Kj{α β:Type}{f:α->β}{a:α}{l:List α}:List.map f (a::l)=f a::List.map f l:=rfl
theorem Ls{α β:Type}{f:α->β}:List.map f []=[]:=rfl
theorem Ll{α:Type}{a:α}{l m:List α}:(a::l)++m=a::(l++m):=rfl
theorem Ks{α:Type}{m:List α}:[]++m=m:=rfl
theorem Lm{α:Type}{a:α}{l:List α}:(a::l)[0]?=some a:=rfl
theorem Lr{α:Type}{a:α}{l:List α}{n:Nat}:(a::l)[n+1]?=l[n]?:=rfl
theorem KO{α:Type}{a b:α}{l:List α}:(a::l).set 0 b=b::l:=rfl
theorem LX{α:Type}{a b:α}{l:List α}{n:Nat}:(a::l).set (n+1) b=a::l.set n b:=rfl
section
variable {X:Cx}
theorem al(i:Nat){x:Str}{pos:Pos}(hN:autoParam (X.N[i]?=some x) zz0._auto_1)(hv:autoParam (Jj X.env.scope x) zz6._auto_1)(hd:autoParam ((x==("__debug__":Str))=false) zz1._auto_1)
  (hc:autoParam ((x==("__classdict__":Str))=false) zz1._auto_1):PE X (.Name x pos) (Jh i):=λpins s σ H Q I h=>pv i hN hv hd hc pins s σ H Q I (by
 unfold Jh at h
 split at h
 ·exact⟨_,‹_›,h⟩
 ·exact h.elim)
theorem bc.m0{f:Value->Value->Sem Value}(h:bc X f (BA g)):bc X f (F9 g):=λpins s σ H x y v u Q I a b c=>h pins s σ H x y v u Q I a b (Dx▸c)
theorem bc.m1{f:Value->Value->Sem Value}(h:bc X f (rI C g)):bc X f (Jc C g):=λpins s σ H x y v u Q I a b c=>h pins s σ H x y v u Q I a b (GH▸c)
theorem bg:Hd X (AL X.K):=λe sl pins s σ H x y v u Q I a b c d=>Ab e sl pins s σ H x y v u Q I a b (Ad▸c) d
theorem aC:Hd X (Aw X.K):=λe sl pins s σ H x y v u Q I a b c d=>D6 e sl pins s σ H x y v u Q I a b (AU▸c) d
end
section
variable {prog:NE}{w:NH}{A:NG}{E:Nt}{s:Ny}
theorem sZ{a b:Int}{t u:Tok}{Q:Nt}(hh:A.handled=none)(hl:s.heap.IsTuple l (intItems #[(a,t),(b,u)]))
  (h:∀h' tk,(∀c o,s.heap.get? c=some o->h'.get? c=some o)->Q (if b>a then .int b u else .int a t) {s with heap:=h',toks:=tk}) :
  wpAny (model prog w) A (call (.builtin "max") [.ref l]) Q E s:=by
 have p:l<s.heap.objs.size:=by obtain⟨_,e,_⟩:=hl;exact MZ e
 refine call_max_walk (wpAny_pyIter_tuple hl ?_);refine⟨_,[_,l],[_],_,_,_,_,rfl,Walks.tuple (A:=A.in1) hh _ l (MS p) (intItems #[(a,t),(b,u)]),
  ⟨⟨_,MF _ rfl,rfl,rfl⟩,hl.push _⟩,λc hc=>?_,by simp[intItems],CmpOf.ints_gt (numAt #[(a,t),(b,u)]) (λ_ _=>intItems_at),λv h' tk x r=>?_⟩
 ·show c<(s.heap.push _).objs.size
  rw[Heap.size_push];rcases MO.mp hc with rfl | hc
  ·exact M8 _
  ·rcases MO.mp hc with rfl | hc
   ·exact Nat.lt_succ_of_lt p
   ·cases hc
 ·have n:∀c o,s.heap.get? c=some o->h'.get? c=some o:=λc o e=>by
   refine r c o (λhm=>?_) (Mz _ e);rcases MO.mp hm with y | hm
   ·have:=MZ e;rw[y]at this;exact M7 _ this
   ·cases hm
  have:=h h' tk n;have q:v=if b>a then Value.int b u else Value.int a t:=by
   have k:(intItems #[(a,t),(b,u)])[argBest (λi j=>decide (numAt #[(a,t),(b,u)] i>numAt #[(a,t),(b,u)] j)) 1]?=some v:=by
    have m:(intItems #[(a,t),(b,u)]).size-1=1:=by simp[intItems]
    rw[<- m];exact x
   by_cases g:b>a
   ·have e:argBest (λi j=>decide (numAt #[(a,t),(b,u)] i>numAt #[(a,t),(b,u)] j)) 1=1:=by simp[argBest,numAt,g]
    rw[e]at k
    simpa[intItems,g]using k.symm
   ·have e:argBest (λi j=>decide (numAt #[(a,t),(b,u)] i>numAt #[(a,t),(b,u)] j)) 1=0:=by simp[argBest,numAt,g]
    rw[e]at k
    simpa[intItems,g]using k.symm
  rw[q];exact this
end
def DB(K:Nu):List V->Hp->VK->Prop:=λxs H Q=>∃p i j,xs=[.ref p]/\aZ K H p [.int i,.int j]/\Q (.int (if j>i then j else i)) H
section
variable {X:Cx}
theorem CO(hc:X.calm=true):g_ X (.builtin "max") (DB X.K):=by
 intro pins s σ H xs us Q I r h;obtain⟨p,i,j,rfl,y,q⟩:=h;obtain⟨u,rfl,x⟩:=r.one;cases x;obtain⟨its,w,⟨o,e,g,n,hd⟩,_⟩:=I.tuple y;obtain⟨v,v',rfl,⟨t,rfl⟩,⟨m,rfl⟩⟩:=IX w;refine sZ (l:=p) (a:=i) (b:=j) (t:=t) (u:=m) (I.ok.hd hc) ⟨o,e,g,n,by rw[hd];simp[intItems]⟩ λh' tk k=>⟨_,H,I.kept k,?_,q⟩
 by_cases c:j>i
 ·rw[q07 c,q07 c];exact⟨_,rfl⟩
 ·rw[q06 c,q06 c];exact⟨_,rfl⟩
end
def IW(o:Obj):Option HO->Option HO
 |some (.lst xs)=>some (.frz o (.lst xs))
 |u=>u
def cZ(H:Hp)(ls:NA)(os:Addr->Obj):Hp:=λb=>if b∈ls then IW (os b) (H b) else H b
theorem gw{H:Hp}{ls:NA}{os:Addr->Obj}{u:HO}(h:H b=some u)(hn:b∉ls\/∀xs,u≠.lst xs):cZ H ls os b=some u:=by
 unfold cZ
 split
 ·rename_i hb
  rcases hn with hn | hn
  ·exact q0N hb hn
  ·rw[h]
   cases u<;>first | rfl | exact q0N rfl (hn _)
 ·exact h
theorem Em{ls:NA}{os:Addr->Obj}:cZ H ls os b=none↔H b=none:=by
 unfold cZ
 split
 ·cases h:H b with
  |none=>exact⟨λ_=>rfl,λ_=>rfl⟩
  |some u=>cases u<;>simp[IW]
 ·exact Iff.rfl
theorem zD{H:Hp}{ls:NA}{os:Addr->Obj}(h:H b=some (.lst xs))(hb:b∈ls):cZ H ls os b=some (.frz (os b) (.lst xs)):=by
 unfold cZ;rw[q07 hb,h];rfl
section
variable {X:Cx}{pins:Nv}{σ:St}{H:Hp}{s:Ny}
theorem Inv.freeze(I:Inv X pins σ H s){ls:NA}(hl:∀l∈ls,∃xs,H l=some (.lst xs)):∃os,Inv X pins σ (cZ H ls os) s:=by
 refine⟨λb=>(s.heap.get? b).getD default,?_⟩;generalize j:(λb=>(s.heap.get? b).getD default:Addr->Obj)=os;have old:∀b u,H b=some u->(∀xs,u≠.lst xs)->cZ H ls os b=some u:=λb u h x=>gw h (.inr x);have hok:kZ X.prog X.w (cZ H ls os) s.heap:=λb u e=>by
  by_cases k:b∈ls
  ·obtain⟨xs,m⟩:=hl b k
   rw[zD m k]at e;cases e;have p:=I.hok b _ m;obtain⟨z,a,n,r,g⟩:=p;refine⟨?_,z,a,n,r,g⟩;rw[<- j];show s.heap.get? b=some ((s.heap.get? b).getD default);rw[g];rfl
  ·unfold cZ at e
   rw[q06 k]at e;exact(I.hok b u e).stay (λc v _ q=>q) (λc q=>old c _ q (by intro xs z;cases z)) λc xs q=>old c _ q (by intro xs z;cases z)
 have un:Un X.fs [] H (cZ H ls os) s.heap s.heap:=⟨λb o e _ _ _=>e,λb o e _ _ _=>⟨o.slots,e⟩,λb o _ n _=>Em.mpr n,λb o e _=>⟨o,e⟩,λb xs e=>old b _ e (by intro xs z;cases z),λb o u e=>old b _ e (by intro xs z;cases z),λb ps e=>⟨#[],by rw[old b _ e (by intro xs z;cases z)];simp⟩⟩;exact I.un (h':=s.heap) (t':=s.toks) un hok
def Hx(t:TS):TS:=λD σ H=>t {D with nx:=λσ' H'=>∃ls:List Addr,(∀l∈ls,∃xs,H' l=some (.lst xs))/\∀os,D.nx σ' (cZ H' ls os)} σ H
theorem HU{st:Stmt}{t:TS}(h:PS X st t):PS X st (Hx t):=by
 intro a s σ H D I q;refine bV (h a s σ H _ I q) λf s' b=>?_;cases f with
 |next=>
  obtain⟨σ',H',k,ls,g,c⟩:=b;obtain⟨e,j⟩:=k.freeze g;exact⟨σ',_,j,c e⟩
 |brk=>exact b
 |cont=>exact b
 |ret u=>exact b
end
def Iv(_ j:Int):Prop:=0<j/\j.natAbs.log2<9000
section
variable {X:Cx}
theorem E5:bc X (binaryOp .FloorDiv) (rI Iv λi j=>.int (i/j)):=IZ λi j _ _ _ _ _ hc q=>by
 have h1:(0:Int)<j:=hc.1;exact floordiv_int ⋯ (by rw[Int.fdiv_eq_ediv_of_nonneg i ⋯];exact q) (.inl (PyProof.noPylong_of_log2 hc.2))
end
def pM(rss tss:List (List V)):Bool:=if rss.length=tss.length then(List.range rss.length).all (λj=>match rss[j]?,tss[j]? with | some x,some y=>jV x y | _,_=>true) else false
def Ik(K:Nu)(H:Hp)(l:Addr)(rss:List (List V)):Prop:=∃bs:List Addr,aW K H l (bs.map V.ref)/\bs.length=rss.length/\∀(i:Nat) b r,bs[i]?=some b->rss[i]?=some r->aZ K H b r/\r.all eM=true
theorem uA{xs:List V}(h:xs.all eM=true):jV xs xs=true:=by
 unfold jV;rw[q0L,Nh];refine⟨λj a=>?_,by simp⟩;have a:=List.mem_range.mp a;rw[Mx ⋯];dsimp only;have b:=Nh.mp h _ (MH (show j<xs.length by omega));generalize xs[j]'⋯=x at b;cases x<;>simp_all [eM,l9]
section
variable {X:Cx}{pins:Nv}{σ:St}{H:Hp}{s:Ny}{A:NG}
theorem F0(I:Inv X pins σ H s){a b:Addr}{xs ys:List V}(hu:A.units<cLine)(ha:aZ X.K H a xs)(hb:aZ X.K H b ys)(fx:xs.all eM=true)(fy:ys.all eM=true):SeqAt.EqAt A s (.ref a) (.ref b) (jV xs ys):=by
 by_cases k:a=b
 ·subst k
  rw[I.tuple_inj ha hb,uA fy];exact SeqAt.EqAt.same _
 obtain⟨g,u,D,_⟩:=I.tuple ha;obtain⟨c,r,C,_⟩:=I.tuple hb;have J:=u.length;have G:=r.length
 have v:=SeqAt.RcAt.tuples (A:=A) (s:=s) (e:=λj=>match xs[j]?,ys[j]? with | some x,some y=>l9 x y | _,_=>true) (show s.heap.IsTuple a g.toArray from D) (show s.heap.IsTuple b c.toArray from C) hu (λj M L=>by
  have q:j<g.length:=by simpa using M
  have p:j<c.length:=by simpa using L
  have m:xs[j]?=some xs[j]:=Mx ⋯;have l:ys[j]?=some ys[j]:=Mx ⋯;obtain⟨w1,B,o⟩:=u.get m;obtain⟨w2,w,n⟩:=r.get l;rw[Mx q]at B;rw[Mx p]at w;cases B;cases w
  simp only[Nj,m,l];exact fU o n (Nh.mp fx _ (MD m)) (Nh.mp fy _ (MD l)))
 rw[MG,MG,<- J,<- G]at v;exact SeqAt.EqAt.of_refs k v
theorem tK{rss:List (List V)}(h:∀r∈rss,r.all eM=true):pM rss rss=true:=by
 unfold pM;rw[q07 rfl,Nh];intro j a;have a:=List.mem_range.mp a;rw[Mx a];exact uA (h _ (MH a))
theorem IB(I:Inv X pins σ H s){a b:Addr}{rss tss:List (List V)}(hu:A.units+1<cLine)(ha:Ik X.K H a rss)(hb:Ik X.K H b tss):SeqAt.EqAt A s (.ref a) (.ref b) (pM rss tss):=by
 obtain⟨g,p,o,c⟩:=ha;obtain⟨bs,m,B,l⟩:=hb
 by_cases n:a=b
 ·subst n
  have e:=I.list_inj p m;have e2:g=bs:=by
   have:g.map V.ref=bs.map V.ref:=e;clear e p o c m B l
   induction g generalizing bs with
   |nil=>cases bs with
    |nil=>rfl
    |cons _ _=>cases this
   |cons x g ih=>cases bs with
    |nil=>cases this
    |cons y bs=>
     rw[M5,M5]at this
     injection this with h1 h2
     injection h1 with h1
     rw[h1,ih bs h2]
  subst e2;have e3:rss=tss:=by
   apply List.ext_getElem
   ·omega
   ·intro i i1 i2
    have h1:=c i _ _ (Mx (by omega:i<g.length)) (Mx i1);have h2:=l i _ _ (Mx (by omega:i<g.length)) (Mx i2);exact I.tuple_inj h1.1 h2.1
  subst e3;rw[tK λr hr=>by
   obtain⟨i,U⟩:=List.getElem?_of_mem hr;exact(c i _ _ (Mx (by rw[o];exact(My.mp U).1)) U).2]
  exact SeqAt.EqAt.same _
 obtain⟨u,L,R,_⟩:=I.list p;obtain⟨k,J,O,_⟩:=I.list m;have S:=L.length;have l2:=J.length
 rw[MA]at S l2;unfold pM
 by_cases T:rss.length=tss.length
 ·rw[q07 T]
  have q:=SeqAt.RcAt.lists (A:=A) (s:=s) (e:=λj=>match rss[j]?,tss[j]? with | some x,some y=>jV x y | _,_=>true) R.isList O.isList (by simp;omega) ⋯ λj g1 g2=>by
   have D:j<u.length:=by simpa using g1
   have C:j<k.length:=by simpa using g2
   have x1:(g.map V.ref)[j]?=some (V.ref (g[j]'⋯)):=by rw[MC,Mx ⋯];rfl
   have y1:(bs.map V.ref)[j]?=some (V.ref (bs[j]'⋯)):=by rw[MC,Mx ⋯];rfl
   obtain⟨w1,Z,w⟩:=L.get x1;obtain⟨w2,Y,v⟩:=J.get y1;rw[Mx D]at Z;rw[Mx C]at Y;cases Z;cases Y
   have M:rss[j]?=some (rss[j]'⋯):=Mx _;have G:tss[j]?=some (tss[j]'⋯):=Mx _;obtain⟨h1,h2⟩:=c j _ _ (Mx ⋯) M;obtain⟨h3,h4⟩:=l j _ _ (Mx ⋯) G;simp only[Nj];rw[show u[j]=Value.ref (g[j]'⋯) from w,show k[j]=Value.ref (bs[j]'⋯) from v,M,G];exact F0 I (by show A.units+1<cLine;exact hu) h1 h3 h2 h4
  rw[MG,<- S,o]at q;exact SeqAt.EqAt.of_refs n q
 ·rw[q06 T]
  exact SeqAt.EqAt.of_refs n (SeqAt.RcAt.lists_lengths (A:=A) (s:=s) R.isList O.isList (by simp;omega) ⋯)
end
section
variable {X:Cx}
def HG(K:Nu):R2:=λx y H Q=>∃a b i j la lb rss tss,x=.ref a/\y=.ref b/\aZ K H a [.int i,.ref la]/\aZ K H b [.int j,.ref lb]/\Ik K H la rss/\Ik K H lb tss/\Q (.bl (decide (i=j)&&pM rss tss)) H
theorem HQ(hu:X.A.units+64<cLine):bc X (compareOp .Eq) (HG X.K):=by
 intro pins s σ H x y v u Q I rx ry h;obtain⟨a,b,i,j,C,B,g,c,rfl,rfl,M,L,r,p,q⟩:=h;cases rx;cases ry
 obtain⟨its,m,J,_⟩:=I.tuple M;obtain⟨its2,l,G,_⟩:=I.tuple L;cases m with
 |cons q1 m=>
 cases m with
 |cons q2 m=>
 cases m;cases l with
 |cons p1 l=>
 cases l with
 |cons p2 l=>
 cases l;obtain⟨o,rfl⟩:=q1;obtain⟨n,rfl⟩:=p1;obtain rfl:=q2;obtain rfl:=p2;have D:=SeqAt.RcAt.tuples (A:=X.A) (s:=s) (e:=λk=>if k=0 then decide (i=j) else pM g c) (show s.heap.IsTuple a _ from J) (show s.heap.IsTuple b _ from G) ⋯ (λk O g2=>by
  have w:k<2:=by simpa using O
  match k,w with
  |0,_=>
   have h1:bu (V.int i) (.int i o):=⟨o,rfl⟩;have h2:bu (V.int j) (.int j n):=⟨n,rfl⟩;have:=fU (A:=X.A.in1) (s:=s) h1 h2 rfl rfl;rw[show l9 (V.int i) (V.int j)=decide (i=j) by simp[l9];rfl]at this;exact this
  |1,_=>exact IB I (by show X.A.units+1+1<cLine;omega) r p)
 refine D _ _ _ _ ⟨.bl _,H,I,rfl,?_⟩;have e:(((List.range (min [Value.int i o,Value.ref C].toArray.size [Value.int j n,Value.ref B].toArray.size)).all λk=>if k=0 then decide (i=j) else pM g c)&&[Value.int i o,Value.ref C].toArray.size==[Value.int j n,Value.ref B].toArray.size)=(decide (i=j)&&pM g c):=by
  show(([0,1].all λk=>if k=0 then decide (i=j) else pM g c)&&true)=_;simp
 rw[e];exact q
end
section
variable {prog:NE}{w:NH}{A:NG}{E:Nt}{s:Ny}
theorem yv{t:Addr}{its}{x:Value}{Q:Nt}(hj:s.heap.IsTupleIter j t n)(ht:s.heap.IsTuple t its)(hx:its[n]?=some x)
  (q:∀h',h'.IsTupleIter j t (n+1)->Heap.SameBut j s.heap h'->Q x {s with heap:=h' }):wpAny (model prog w) A (Builtin.SmallTypes.nextOf (.ref j)) Q E s:=by
 obtain⟨oj,b,e,a⟩:=id hj;obtain⟨ot,et,_,m,c⟩:=ht
 unfold Builtin.SmallTypes.nextOf;refine q04 (wpAny_callSpecial?_slot (name:=Str.ofString "__next__") hj.typeIs F.slot_tuple_iterator_next (wpAny_call_entry F.slot_tuple_iterator_next hj.typeIs F.entry_tuple_iterator_next ?_ (F.args_tuple_iterator_next_1 _)))
 show wpAny _ _ (field (.ref j) 0 >>= _) _ _ s;refine q04 (wpAny_field b a (x:=.ref t) rfl ?_)
 show wpAny _ _ (if(Value.ref t==Value.none)=true then _ else _) _ _ s;rw[q06 (show ¬ ((Value.ref t==Value.none)=true) from MY)]
 show wpAny _ _ (field (.ref j) 1 >>= _) _ _ s;refine q04 (wpAny_field b a (x:=.int n 0) rfl ?_)
 show wpAny _ _ (seqItems? (.ref t) >>= _) _ _ s;refine q04 (wpAny_seqItems et c ?_)
 simp only[MI,hx];refine q04 (wpAny_setField b a (by simp) (q05 ⟨x,rfl,q05 (q _ ?_ (Heap.SameBut.update ..))⟩))
 exact⟨_,MJ _ b (Obj.isFreed_of_fields (Obj.data_mapFields a _)),(Obj.cls_mapFields ..).trans e,by rw[Obj.data_mapFields a];simp[rawInt]⟩
theorem zU{z TI TO t:Addr}{x y:Value}{Q:Option Value->Shared->Prop}(D:ZipApart z TI TO i1 i2 l t)(z0:IsZip s.heap z TI TO .none)(p0:IsPair s.heap TI (.ref i1) (.ref i2))(o0:IsPair s.heap TO a b)
  (j1:s.heap.IsListIter i1 l k) (j2:s.heap.IsTupleIter i2 t n) (hl:s.heap.IsList l xs) (ht:s.heap.IsTuple t ys) (hx:xs[k]?=some x) (hy:ys[n]?=some y)
  (q:∀h',IsZip h' z TI TO (rawInt s.heap.objs.size)->IsPair h' TO x y->h'.IsListIter i1 l (k+1)->h'.IsTupleIter i2 t (n+1)->IsPair h' s.heap.objs.size x y->(∀c o,c≠z->c≠TO->c≠i1->c≠i2->s.heap.get? c=some o->h'.get? c=some o)->Q (some (.ref s.heap.objs.size)) {s with heap:=h' }) :
  wpAny (model prog w) A (pyNext (.ref z)) Q E s:=by
 have ty:s.TypeIs (.ref z) "zip":=⟨_,z0,rfl⟩;unfold pyNext;refine q04 (wpAny_attempt (wpAny_callSpecial?_slot (name:=Str.ofString "__next__") ty F.slot_zip_next (wpAny_call_entry F.slot_zip_next ty F.entry_zip_next ?_ (F.args_zip_next_1 _))))
 show wpAny _ _ (field (.ref z) 2 >>= _) _ _ s;refine q04 (wpAny_field z0 rfl (x:=.bool false) rfl ?_)
 show wpAny _ _ (field (.ref z) 3 >>= _) _ _ s;refine q04 (wpAny_field z0 rfl (x:=.ref TI) rfl (q04 (wpAny_seqItems p0 rfl ?_)))
 show wpAny _ _ (Builtin.SmallTypes.ownedTupleIsFree (.ref z) >>= _) _ _ s;refine q04 ?_;unfold Builtin.SmallTypes.ownedTupleIsFree;refine q04 (wpAny_field z0 rfl (x:=.none) rfl (q05 ?_))
 simp only[if_true];refine q04 (wpAny_rule (q04 (wpAny_field z0 rfl (x:=.ref TO) rfl ?_)))
 refine q04 (wpAny_setField_rec z0 (by simp) λg1 M j=>?_);replace M:IsZip g1 z TI TO .ellipsis:=M
 refine q04 ?_;simp only[List.zipIdx_cons,List.zipIdx_nil,List.forIn_cons,List.forIn_nil];refine q04 (q04 (wpAny_onRaise ?_))
 show wpAny _ _ (Builtin.SmallTypes.nextOf (.ref i1) >>= _) _ _ _;refine q04 (wpAny_nextOf_list_item (j1.extBut j.extBut D.i1z) (hl.extBut j.extBut D.l1z) hx λg2 U u=>q05 ?_)
 have o2:IsPair g2 TO a b:=u.extBut _ _ D.TOi1 (j.extBut _ _ D.TOz o0);refine q04 (wpAny_seqItems o2 rfl (q04 (wpAny_updateSeq_pair o2 λg3 O p=>?_)));replace O:IsPair g3 TO x b:=O
 refine q04 (wpAny_letGo (q05 (q04 (q04 (wpAny_onRaise ?_)))));show wpAny _ _ (Builtin.SmallTypes.nextOf (.ref i2) >>= _) _ _ _;refine q04 (yv (((j2.extBut j.extBut D.i2z).extBut u.extBut D.i12.symm).extBut p.extBut D.TOi2.symm) (((ht.extBut j.extBut D.l2z).extBut u.extBut D.l2i1).extBut p.extBut D.l2TO) hy λg4 S B=>q05 ?_);have o4:IsPair g4 TO x b:=B.extBut _ _ D.TOi2 O;refine q04 (wpAny_seqItems o4 rfl (q04 (wpAny_updateSeq_pair o4 λg G v=>?_)));replace G:IsPair g TO x y:=G
 refine q04 (wpAny_letGo (q05 (q05 (q04 (wpAny_seqItems G rfl (q04 (wpAny_newTuple ?_)))))));have sz:g.objs.size=s.heap.objs.size:=by rw[v.1,B.1,p.1,u.1,j.1]
 have z5:IsZip g z TI TO .ellipsis:=v.extBut _ _ D.TOz.symm (B.extBut _ _ D.i2z.symm (p.extBut _ _ D.TOz.symm (u.extBut _ _ D.i1z.symm M)));have k5:∀c o,c≠z->c≠TO->c≠i1->c≠i2->s.heap.get? c=some o->g.get? c=some o:=λc o m J Z Y e=>v.extBut _ _ J (B.extBut _ _ Y (p.extBut _ _ J (u.extBut _ _ Z (j.extBut _ _ m e))));have T:g.IsListIter i1 l (k+1):=((U.extBut p.extBut D.TOi1.symm).extBut B.extBut D.i12).extBut v.extBut D.TOi1.symm;have R:g.IsTupleIter i2 t (n+1):=S.extBut v.extBut D.TOi2.symm;have zl:z<g.objs.size:=MZ z5;show wpAny _ _ (Builtin.SmallTypes.ownedTupleHandOut (.ref z) (.ref g.objs.size) >>= _) _ _ _;refine q04 ?_;unfold Builtin.SmallTypes.ownedTupleHandOut
 have z6:IsZip (g.push {cls:=.type "tuple",data:=.seq #[x,y]}) z TI TO .ellipsis:=Mz _ z5;refine q04 (wpAny_setField_rec z6 (by simp) λg7 L s7=>?_);replace L:IsZip g7 z TI TO (rawInt g.objs.size):=L
 refine wpAny_setField_rec L (by simp) λI C s8=>?_;replace C:IsZip I z TI TO (rawInt g.objs.size):=C
 have up:∀c o,c≠z->g.get? c=some o->I.get? c=some o:=λc o m e=>s8.extBut _ _ m (s7.extBut _ _ m (Mz _ e));have t8:IsPair I g.objs.size x y:=s8.extBut _ _ (Nat.ne_of_gt zl) (s7.extBut _ _ (Nat.ne_of_gt zl) (MF _ rfl));rw[sz]at C t8;refine q05 ⟨_,rfl,q05 ?_⟩;show Q (some (.ref g.objs.size)) _;rw[sz];exact q I C (up _ _ D.TOz G) (T.at λo e=>up _ o D.i1z e) (let ⟨o,e,r⟩:=R;⟨o,up _ o D.i2z e,r⟩) t8 λc o m J Z Y e=>up c o m (k5 c o m J Z Y e)
theorem Bx{z TI TO i1 l:Addr}{Q:Option Value->Shared->Prop}(hh:A.handled=none)(n1:i1≠z)(n2:l≠z)(n3:TO≠z)(z0:IsZip s.heap z TI TO .none)(p0:IsPair s.heap TI (.ref i1) (.ref i2))(o0:IsPair s.heap TO a b)
  (j1:s.heap.IsListIter i1 l k) (hl:s.heap.IsList l xs) (hx:xs[k]?=none) (q:∀h',(∀c o,c≠z->c≠TO->c≠i1->c≠i2->s.heap.get? c=some o->h'.get? c=some o)->Q none {s with heap:=h' }):wpAny (model prog w) A (pyNext (.ref z)) Q E s:=by
 have ty:s.TypeIs (.ref z) "zip":=⟨_,z0,rfl⟩;unfold pyNext;refine q04 (wpAny_attempt (wpAny_callSpecial?_slot (name:=Str.ofString "__next__") ty F.slot_zip_next (wpAny_call_entry F.slot_zip_next ty F.entry_zip_next ?_ (F.args_zip_next_1 _))))
 show wpAny _ _ (field (.ref z) 2 >>= _) _ _ s;refine q04 (wpAny_field z0 rfl (x:=.bool false) rfl ?_)
 show wpAny _ _ (field (.ref z) 3 >>= _) _ _ s;refine q04 (wpAny_field z0 rfl (x:=.ref TI) rfl (q04 (wpAny_seqItems p0 rfl ?_)))
 show wpAny _ _ (Builtin.SmallTypes.ownedTupleIsFree (.ref z) >>= _) _ _ s;refine q04 ?_;unfold Builtin.SmallTypes.ownedTupleIsFree;refine q04 (wpAny_field z0 rfl (x:=.none) rfl (q05 ?_))
 simp only[if_true];refine q04 (wpAny_rule (q04 (wpAny_field z0 rfl (x:=.ref TO) rfl ?_)))
 refine q04 (wpAny_setField_rec z0 (by simp) λJ m n=>?_);replace m:IsZip J z TI TO .ellipsis:=m
 refine q04 ?_;simp only[List.zipIdx_cons,List.zipIdx_nil,List.forIn_cons,List.forIn_nil];refine q04 (q04 (wpAny_onRaise ?_))
 show wpAny _ _ (Builtin.SmallTypes.nextOf (.ref i1) >>= _) _ _ _;refine q04 (wpAny_nextOf_list_end hh (j1.extBut n.extBut n1) (hl.extBut n.extBut n2) hx λI e y D=>?_)
 obtain⟨B,g,j⟩:=D;have r:IsZip I z TI TO .ellipsis:=y _ _ n1.symm m;have L:e≠z:=λu=>by subst u;rw[r]at g;cases g;simp at j
 refine wpAny_setField_rec r (by simp) λG _ v=>?_;have p:G.get? e=some B:=v.extBut _ _ L g;refine q04 (wpAny_isInstance (T:="StopIteration") (b:=true) ⟨B,p,j⟩ isSubtype_stop (q05 (q _ λc o C _ M _ u=>v.extBut _ _ C (y _ _ M (n.extBut _ _ C u)))))
def BZ(h:Heap)(l t:Addr):Heap:=((((h.push {cls:=.type "list_iterator",data:=.fields #[.ref l,.int 0 0]}).push {cls:=.type "tuple_iterator",data:=.fields #[.ref t,.int 0 0]}).push {cls:=.type "tuple",data:=.seq #[.ref h.objs.size,.ref (h.objs.size+1)]}).push {cls:=.type "tuple",data:=.seq #[.none,.none]}).push {cls:=.type "zip",data:=.fields #[.none,.bool false,.bool false,.ref (h.objs.size+2),.ref (h.objs.size+3)]}
theorem wI(l t:Addr)(xs ys:Array Value):Meets (Builtin.«zip.__new__» ⟨[.type "zip",.ref l,.ref t],[]⟩) (λ_ R s=>s.heap.IsList l xs/\s.heap.IsTuple t ys/\R (.ok (.ret (.ref (s.heap.objs.size+4)))) {s with heap:=BZ s.heap l t}):=
 .of_wp λprog w A R s h=>by
  obtain⟨hp,g,d,tk,os⟩:=s;obtain⟨h1,h2,h⟩:=h
  have hsub:isSubtype (.type "zip") (.type "zip")=pure true:=by rw[isSubtype_type];kernel_rfl
  have b:Heap.IsList (Shared.heap ⟨hp,g,d,tk,os⟩) l xs:=h1;have a:Heap.IsTuple (Shared.heap ⟨hp.push {cls:=.type "list_iterator",data:=.fields #[.ref l,.int 0 0]},g,d,tk,os⟩) t ys:=Heap.IsTuple.push h2 _
  wp_walk using wpAny_pyIter_list b,wpAny_pyIter_tuple a
  refine⟨_,rfl,?_⟩;simp only[Heap.size_push]at *;exact h
theorem yV{t:Addr}{Q:Nt}(hl:s.heap.IsList l xs)(ht:s.heap.IsTuple t ys)
  (q:∀h',IsZip h' (s.heap.objs.size+4) (s.heap.objs.size+2) (s.heap.objs.size+3) .none->IsPair h' (s.heap.objs.size+2) (.ref s.heap.objs.size) (.ref (s.heap.objs.size+1))->IsPair h' (s.heap.objs.size+3) .none .none->h'.IsListIter s.heap.objs.size l 0->h'.IsTupleIter (s.heap.objs.size+1) t 0->(∀c o,s.heap.get? c=some o->h'.get? c=some o)->Q (.ref (s.heap.objs.size+4)) {s with heap:=h' }) :
  wpAny (model prog w) A (call (.type "zip") [.ref l,.ref t]) Q E s:=by
 refine callType_new F.called_zip nofun (F.typeCall_zip_2 _ _) (F.newCall_zip_2 _ _) (λobj=>F.args_object_init_3 obj _ _) F.entry_zip_new (wI l t xs ys) ⟨hl,ht,?_⟩;have a:∀{h:Heap} {n:Nat} {o:Obj},h.objs.size=n->o.isFreed=false->(h.push o).get? n=some o:=λe f=>by rw[<- e];exact MF _ f
 have up:=fun{h:Heap} {c:Addr} {u:Obj} (o:Obj) (e:h.get? c=some u)=>Mz o e;have b:(BZ s.heap l t).get? (s.heap.objs.size+4)=some _:=a (by simp only[Heap.size_push]) rfl;have g:(BZ s.heap l t).get? (s.heap.objs.size+3)=some _:=up _ (a (by simp only[Heap.size_push]) rfl);have j:(BZ s.heap l t).get? (s.heap.objs.size+2)=some _:=up _ (up _ (a (by simp only[Heap.size_push]) rfl));have k:(BZ s.heap l t).get? (s.heap.objs.size+1)=some _:=up _ (up _ (up _ (a (by simp only[Heap.size_push]) rfl)));have m:(BZ s.heap l t).get? s.heap.objs.size=some _:=up _ (up _ (up _ (up _ (a rfl rfl))));exact⟨⟨_,b,rfl⟩,q _ b j g ⟨_,m,rfl,rfl⟩ ⟨_,k,rfl,rfl⟩ λc o u=>up _ (up _ (up _ (up _ (up _ u))))⟩
end
def Hc(K:Nu)(a b:Addr):It:=
 ⟨λi H=>∃xs ys x y,aW K H a xs/\aZ K H b ys/\xs[i]?=some x/\ys[i]?=some y,λi H v H'=>∃T x y,v=.ref T/\H T=none/\H'=ay H T (.tup [x,y])/\(∀xs,aW K H a xs->xs[i]?=some x)/\∀ys,aZ K H b ys->ys[i]?=some y,
  λi H=>∃xs,aW K H a xs/\xs.length<=i⟩
theorem CJ{K:Nu}{elts:NK}{tp:Pos}{z TI TO:Addr}(D:ZipApart z TI TO i1 i2 l1 l2) :
  rG P w K (.Tuple elts x1 tp) (Hc K l1 l2) [z,TI,TO,i1,i2] z (λi h=>IsZip h z TI TO .none/\IsPair h TI (.ref i1) (.ref i2)/\(∃a b,IsPair h TO a b)/\h.IsListIter i1 l1 i/\h.IsTupleIter i2 l2 i) where
 mem:=by simp
 obj:=λi h n b G=>by
  obtain⟨p,g,⟨a,c,j⟩,⟨o1,e1,c1,d1⟩,⟨T,S,c2,d2⟩⟩:=n;simp only[MO,List.not_mem_nil,or_false]at G;rcases G with rfl | rfl | rfl | rfl | rfl
  ·exact⟨_,p,λv q=>by cases q⟩
  ·exact⟨_,g,λv q=>by cases q⟩
  ·exact⟨_,j,λv q=>by cases q⟩
  ·exact⟨_,e1,λv q=>by rw[d1]at q;cases q⟩
  ·exact⟨_,S,λv q=>by rw[d2]at q;cases q⟩
 keep:=λi h h' n m=>by
  obtain⟨p,g,⟨a,b,j⟩,h1,⟨T,S,r2⟩⟩:=n;exact⟨m z (by simp) _ p,m TI (by simp) _ g,⟨a,b,m TO (by simp) _ j⟩,h1.at λo e=>m i1 (by simp) o e,⟨T,m i2 (by simp) T S,r2⟩⟩
 item:=by
  intro X hP hw hK l i J s σ H E I hf n hg;subst hP hw hK;obtain⟨xs,ys,x,y,r,O,hx,hy⟩:=hg;obtain⟨M,u,p1,a7⟩:=I.list r;obtain⟨L,Z,p2,hz2⟩:=I.tuple O;obtain⟨Y,b0,a6⟩:=u.get hx;obtain⟨U,a9,a0⟩:=Z.get hy;obtain⟨p,g,⟨a,b,j⟩,h1,h2⟩:=n;refine zU D p g j h1 h2 p1.isList (show s.heap.IsTuple l2 L.toArray from p2) (x:=Y) (y:=U) (by simpa using b0) (by simpa using a9) λh' a1 a2 a3 a4 a5 m=>?_;refine⟨_,rfl,wpAny_letOwnedTupleGo_zip a1 λR a8 k=>?_⟩;have C:H s.heap.objs.size=none:=I.hok.fresh (MW _);have lt:∀{c o},s.heap.get? c=some o->s.heap.objs.size≠c:=λe=>Nat.ne_of_gt (MZ e);have kk:∀c o,c∉[z,TI,TO,i1,i2]->s.heap.get? c=some o->R.get? c=some o:=λc o l e=>
   k.extBut _ _ (λq=>l (by simp[q])) (m c o (λq=>l (by simp[q])) (λq=>l (by simp[q])) (λq=>l (by simp[q])) (λq=>l (by simp[q])) e)
  have hT:R.get? s.heap.objs.size=some {cls:=.type "tuple",data:=.seq #[Y,U]}:=k.extBut _ _ (lt p) a5;refine⟨.ref s.heap.objs.size,ay H s.heap.objs.size (.tup [x,y]),I.movedT (tk:=s.toks) hf kk (MW _) ⟨show 2<=sizeLine from by decide +kernel,[Y,U],.cons a6 (.cons a0 .nil),_,hT,rfl,_,rfl⟩,rfl,
   ⟨_,x,y,rfl,C,rfl,λzs B=>by rw[I.list_inj B r];exact hx,λzs B=>by rw[I.tuple_inj B O];exact hy⟩,
   ⟨a8,k.extBut _ _ D.TIz (m _ _ D.TIz D.TITO D.TIi1 D.TIi2 g),⟨_,_,k.extBut _ _ D.TOz a2⟩,a3.extBut k.extBut D.i1z,a4.extBut k.extBut D.i2z⟩,λb G=>?_⟩
  have b1:b≠s.heap.objs.size:=by
   obtain⟨o1,e1,_⟩:=h1;obtain⟨T,S,_⟩:=h2;simp only[MO,List.not_mem_nil,or_false]at G;rcases G with rfl | rfl | rfl | rfl | rfl
   ·exact(lt p).symm
   ·exact(lt g).symm
   ·exact(lt j).symm
   ·exact(lt e1).symm
   ·exact(lt S).symm
  rw[ao b1];exact(hf b G).1
 done:=by
  intro X hP hw hK l i J s σ H E I hf n hg;subst hP hw hK;obtain⟨xs,r,hx⟩:=hg;obtain⟨M,u,p1,a7⟩:=I.list r;obtain⟨p,g,⟨a,b,j⟩,h1,h2⟩:=n;have l1':=u.length;exact Bx (I.ok.hd l) D.i1z D.l1z D.TOz p g j h1 p1.isList (by simp;omega) λh' m=>⟨rfl,I.moved (tk:=s.toks) hf λc o l e=>m c o (λq=>l (by simp[q])) (λq=>l (by simp[q])) (λq=>l (by simp[q])) (λq=>l (by simp[q])) e⟩
 self:=λ_ _ _ _ _ n h=>wpAny_pyIter_zip n.1 h
section
variable {X:Cx}{elts:NK}{x1:Nat}{tp:Pos}
def DP(K:Nu)(ta:TA):TI:=λσ H R=>ta σ H λvs H1=>∃a b xs ys,vs=[.ref a,.ref b]/\aW K H1 a xs/\aZ K H1 b ys/\R (Hc K a b) H1
theorem FY{a b:Expr}{ta:TA}{p pos:Pos}(hg:Gl X "zip")(hm:X.mg "zip"=none)(ha:PA X [a,b] ta)(hs:autoParam (starEach [a,b] X.env=[(false,eval a X.env),(false,eval b X.env)]) zz0._auto_1)(hs2:autoParam (starEach [b] X.env=[(false,eval b X.env)]) zz0._auto_1):PI X (.Tuple elts x1 tp) (.Call (.Name "zip" p) [a,b] [] pos) (DP X.K ta):=by
 intro g s σ H R I h;refine Call_ (fC I hg hm boot_zip (PyProof.Rows.callWith_type1 (bV (ha pos g s σ H _ I h) λus c ⟨vs,B,l,O,S⟩=>?_) (by rw[hs,hs2]) (by rw[hs2];rfl)));obtain⟨l1,l2,xs,ys,rfl,r,o,q⟩:=S;obtain⟨u,v,rfl,M,L⟩:=O.two;cases M;cases L;obtain⟨its1,rv1,x,_⟩:=l.list r;obtain⟨j,rv2,T,_⟩:=l.tuple o;have pt:c.heap.IsTuple l2 j.toArray:=T;refine yV x.isList pt λY w J G D C U=>?_;have n:l1<c.heap.objs.size:=by obtain⟨_,e,_⟩:=x.isList;exact MZ e
 have m:l2<c.heap.objs.size:=by obtain⟨_,e,_⟩:=pt;exact MZ e
 have Z:Inv X g σ B {c with heap:=Y }:=l.kept (t':=c.toks) U;refine wpAny_pyIter_zip w ?_;refine⟨c.heap.objs.size+4,[c.heap.objs.size+4,c.heap.objs.size+2,c.heap.objs.size+3,c.heap.objs.size,c.heap.objs.size+1],_,_,B,rfl,Z,CJ (l1:=l1) (l2:=l2) ?_,⟨w,J,⟨_,_,G⟩,D,C⟩,λb y=>?_,q⟩
 ·exact tD _ _ _ n m
 ·have k:c.heap.objs.size<=b:=by
   simp only[MO,List.not_mem_nil,or_false]at y;rcases y with e | e | e | e | e<;>(rw[e];first | exact MW _ | exact Nat.le_add_right _ _)
  exact l.fpOk k (l.hok.fresh k)
end
section
variable {K:Nu}{g:TG}{tb:TS}{D:iJ}{σ:St}{H:Hp}
theorem BL{xs ys:List V}(hlen:xs.length<=ys.length)(Pv:Nat->St->Hp->Prop)(h0:Pv 0 σ H)(hl:∀i σ H,i<=xs.length->Pv i σ H->aW K H a xs/\aZ K H b ys)
  (hs:∀i x y σ H T,xs[i]?=some x->ys[i]?=some y->Pv i σ H->H T=none->g (.ref T) σ (ay H T (.tup [x,y])) λσ2 H2=>tb {D with nx:=Pv (i+1),ct:=Pv (i+1),bk:=D.nx} σ2 H2) (hd:∀σ H,Pv xs.length σ H->D.nx σ H):vW (Hc K a b) g tb D σ H:=by
 refine⟨λi m σ H=>Pv i σ H/\i<=xs.length/\m=xs.length+1-i,⟨_,h0,MX _,rfl⟩,?_⟩;rintro i m σ' r ⟨w,p,rfl⟩;obtain⟨e,j⟩:=hl _ _ _ p w;rcases Nat.lt_or_ge i xs.length with c | hge
 ·refine .inr ⟨⟨xs,ys,xs[i],ys[i]'⋯,e,j,Mx c,Mx ⋯⟩,Pv (i+1),λσ2 H2 w2=>⟨xs.length+1-(i+1),⋯,w2,c,rfl⟩,λx H2 y=>?_⟩
  obtain⟨T,l,k,rfl,q,rfl,o,n⟩:=y;exact hs i l k σ' r T (o xs e) (n ys j) w q
 ·have:i=xs.length:=by omega
  subst this;exact .inl ⟨⟨xs,e,MW _⟩,hd _ _ w⟩
end
inductive TrD:Dt->Prop
 |mk (i:Int) (ds:List Dt):(∀d∈ds,TrD d)->TrD (.tup (.int i::ds))
end L2
namespace L2
open PySem PySem.Spec PyProof.Rows QL PySem.Builtin PySem.Builtin.Str
section
variable {X:Cx}{e e2 c:Expr}{tx tx2:TX}{tc:TT}{i:Nat}{n x:Str}{D:Addr}{bmD:Nz}{nD:String}{b₀:Stmt}{suite:List Stmt}{epos ipos epos2 pos hpos np:Pos}{ts:Addr->TS}
def Ir(tc:TT)(t u:TX):TX:=λσ H Q E=>tc σ H λd H1=>if d=true then t σ H1 Q E else u σ H1 Q E
theorem zM{cp:Value->Prop}(hN:X.N.Nodup)(hst:X.stack=X.env::X.outer)(hfr:X.env.frame=some X.env.locals)(hc:PT X.nox c tc)(he:PX (GO cp X.prog X.w) X e tx)(he2:PX (GO cp X.prog X.w) X e2 tx2)(hi:X.N[i]?=some n)(hk:X.env.kindOf n=some .local)(hgl:Gl X x)(hm:X.mg x=some (.ref D))(cD:ju X.K D bmD nD)
  (hbase:bmD.contains (.type "BaseException")=true) (hs:∀ea,wu (X.held ea) (b₀::suite) (ts ea))
  (hd:autoParam ((x==("__debug__":Str))=false) zz2._auto_1) (hsw:autoParam (swapsWith e none epos.line X.env=pure false) zz0._auto_1) (hsw2:autoParam (swapsWith e2 none epos2.line X.env=pure false) zz0._auto_1) :
  PS X (.Try [.If c [.Expr e epos] [.Expr e2 epos2] ipos] [.ExceptHandler (some (.Name x np)) (some n) (b₀::suite) hpos] [] [] pos) (pV X.K D (Ir tc tx tx2) i ts):=by
 intro a s σ H De I h;refine wpAny_Try_except ?_;refine wpAny_execs_cons (wpAny_If (q0S (hc a s σ H _ (I.wish _) h) (λd s0 ⟨H0,a6,q0⟩=>?_) λ_ _ f=>f.elim));have I0:Inv X a σ H0 s0:=a6.unwish
 suffices hex:∀r M U Z,Inv X a σ r M->(GO cp X.prog X.w) X.stack r M (λY od H'=>∃C bm O,Y=.ref C/\ju X.K C bm O/\oS X.K C D/\∀ea,H' ea=none ->
  ts ea {nx:=λσ2 b=>De.nx (σ2.set i none) b,rt:=De.rt,bk:=λσ2 b=>De.bk (σ2.set i none) b,ct:=λσ2 b=>De.ct (σ2.set i none) b} (σ.set i (some (.ref ea))) (ay H' ea (xo ea (.ref C) od))) U Z->wpAny (model X.prog X.w) X.A (noteFrame U X.env) (λ_ s₂=>wpAny (model X.prog X.w) X.A (setFlight U none) (λ_ s₃=>wpAny (model X.prog X.w) X.A (handleBy U X.env [ExceptHandler.ExceptHandler (some (Expr.Name x np)) (some n) (b₀::suite) hpos]) (SP X a De) X.xe s₃) X.xe s₂) X.xe Z from by
  cases d with
  |true=>
   refine wpAny_execs_cons (wpAny_Expr_any ?_ I0.quiet hsw);refine bV (he a s0 σ H0 _ _ _ I0 q0 hex) λv M ⟨y,r,G,r1,q1⟩=>?_;exact wpAny_execs_nil (wpAny_execs_nil (wpAny_execs_nil ⟨σ,r,G,q1⟩))
  |false=>
   refine wpAny_execs_cons (wpAny_Expr_any ?_ I0.quiet hsw2);refine bV (he2 a s0 σ H0 _ _ _ I0 q0 hex) λv M ⟨y,r,G,r1,q1⟩=>?_;exact wpAny_execs_nil (wpAny_execs_nil (wpAny_execs_nil ⟨σ,r,G,q1⟩))
 ·rintro r M U Z G ⟨ea,Y,od,B,H',rfl,l,hn,C,bm,O,rfl,cC,un,a1⟩
  have a4:jg cp B (X.env::X.outer) ea (.ref C) od .none Z.heap:=by rw[<- hst];exact l.fl
  refine DX (by rw[I.ok.frames,hst]) hfr a4 λh4 k L=>?_;refine kH k λh5 m J=>?_;have J5:=G.caught l.toFly0 (by rw[hst];exact m) (L.trans J) hn;refine wpAny_handleBy_cons (codeAny_handlers_test ?_) (by intro q;cases q);refine gm (J5.held ea) hgl hm ?_ hd;obtain⟨tl,N,nm,q,bs,hdct,sn,sub,ab,col,dd,k0,k1,k2,k3,k5,hC,T,dd1,cd1,sl1,a3,S⟩:=cC.obj J5.kIn;obtain⟨tl',N',nm',q',bs',hdct',sn',sub',ab',col',dd',k0',k1',k2',k3',k5',hD,TD,_⟩:=cD.obj J5.kIn;obtain⟨dd2,cd2,sl2,j,g⟩:=un;rw[a3]at j;cases j;rw[S]at g;obtain⟨ob,_,a2,R,_⟩:=m.there;refine iR hC hD a2 R (TD.hasType hbase) g (codeAny_handlers_suite_as ?_);refine kH m λh6 a5 a0=>?_;have J6:=G.caught l.toFly0 (by rw[hst];exact a5) ((L.trans J).trans a0) hn;refine kt (v:=.ref ea) J6 hN hi (.inl hk) rfl (λs7 J7=>?_) (.inr hk);refine q0S (hs ea a s7 _ _ _ (J7.held ea) (a1 ea hn)) (λfl s8 q8=>?_) λ_ _ f=>f.elim;cases fl with
  |next=>obtain⟨σ',b,p,q⟩:=q8;exact d9 (v:=.non) (p.unheld I.ok.hd) hN hi hk λs9 o=>⟨_,_,o,q⟩
  |brk=>obtain⟨σ',b,p,q⟩:=q8;exact d9 (v:=.non) (p.unheld I.ok.hd) hN hi hk λs9 o=>⟨_,_,o,q⟩
  |cont=>obtain⟨σ',b,p,q⟩:=q8;exact d9 (v:=.non) (p.unheld I.ok.hd) hN hi hk λs9 o=>⟨_,_,o,q⟩
  |ret u=>obtain⟨v,σ',b,p,rv,q⟩:=q8;exact d9 (v:=.non) (p.unheld I.ok.hd) hN hi hk λs9 o=>⟨v,_,_,o,rv,q⟩
end
end L2
set_option maxHeartbeats 4000000
namespace Q35
open PySem L2 bN QL
local macro_rules|`(tactic|ext)=>do
 let f(s:String):Lean.MacroM _:=(s.splitOn ",").toArray.mapM λx=>let i:=Lean.mkIdent (x.splitOn "."|>.foldl .mkStr .anonymous);`(Lean.Parser.Tactic.simpLemma|$i:term)
 let g(s:String):Lean.MacroM _:=(s.splitOn ",").toArray.mapM λx=>let i:=Lean.mkIdent (x.splitOn "."|>.foldl .mkStr .anonymous);`(Lean.Parser.Tactic.simpLemma|↓$i:term)
 let c:="B8,tB,DT,EH,HL,EC,Dl,yX,AZ,Ef,AJ,F7,tC,Ij,Jt,w4,GZ,HR,Jr,EY,DD,vU,vV,vh,pV,Dm,G3,G1,G2,yg,vH,Ee,yo,Hx,HG,DP,DB,GX,FP,AX,ux,uT,EU,Dv,Dk,y7,Ib,HY,u9,D1,qv,Di,we,G_,Hk,Ji,qJ,uX,pw,Jn,Gy,Hb,rU,JF,JK,Hl,JB,v9,EN,Hg,Ja,JI,Ac,vo,GB,DM,DK,EI,G7,He,GY,AV,Ea,tF,Af,L2.start,M5,List.map_nil,MK,List.length_nil,List.replicate,List.cons_append,Nk,Nat.reduceAdd,Nat.reduceSub,List.getElem?_cons_zero,M4,List.set_cons_zero,List.set_cons_succ,gS,Cx.blk,l8,zO,C5,D9,Cx.wish,Cx.nox,Jh,lN";let d<-f (c++",Kj,Ls,Ll,Ks,Lm,Lr,KO,LX,Ir,Gp,HH,DZ,E2");let e<-f (c++",M9,Option.some.injEq,V.int.injEq,V.str.injEq,V.ref.injEq,V.bl.injEq,List.cons.injEq,and_true,true_and,exists_and_left,exists_eq_left',exists_eq_left,decide_eq_true_eq,Bool.not_eq_true',decide_eq_false_iff_not,FA,Option.join_some,Nat.succ_eq_add_one,Nat.zero_add,exists_const,and_assoc,exists_eq,exists_eq',Int.reducePow,Int.reduceNeg,Int.reduceLT,or_true,true_or,reduceCtorEq,Int.zero_add,Bool.false_eq_true,Bool.not_true,Bool.not_false,Dx,GH,Ad,AU,Cu,Fb,B2,BA,rI");let h<-g "reduceIte,Jy,Ju,JH,Js,JE,Jo,Jk,JL";let e:=e++h
 `(tactic|((try dsimp only[$d,*]);(try simp only[$e,*])))
set_option hygiene false in
local macro_rules|`(tactic|grind)=>`(tactic|(clear h1;refine am λN1 h1=>?_;ext))
set_option hygiene false in
local macro_rules|`(tactic|symm)=>`(tactic|(refine am λN1 h1=>?_;ext))
set_option hygiene false in
local macro_rules|`(tactic|ac_nf)=>`(tactic|(refine am λN2 h2=>?_;ext))
set_option hygiene false in
local macro_rules|`(tactic|walk_at "f")=>`(tactic|refine F.ok sc (λvs H Q E h=>by cases h;subst_vars;rfl) (λcdv A outer s H vs Q E hr h=>?_))
set_option hygiene false in
local macro_rules|`(tactic|walk_at "x")=>`(tactic|refine F.okX sc (λvs H Q E h=>?_) (λcdv A outer s H vs Q E hr h=>?_))
set_option hygiene false in
local macro_rules|`(tactic|walk_at "c")=>`(tactic|exact⟨rfl,rfl,rfl,by decide +kernel,rfl,by decide +kernel,by decide +kernel⟩)
def ij(i:Nat):Stmt:=PySem.Challenge.pw_quiltlaw_k35_numbers_refused.main.body.getD i (.Pass ⟨0,0,0,0⟩)
def FW:Stmt->List Stmt
 | .ClassDef (body:=b) ..=>b
 |_=>[]
def fu(i j:Nat):Stmt:=(FW (ij i)).getD j (.Pass ⟨0,0,0,0⟩)
section
variable {P:NE}{w:NH}{K:W.Frag}{mg:NC}{base:Heap}
abbrev IQ(z:Str)(c:Nat):Bool:=!(Builtin.Str.occurrences z ⟨#[c]⟩ 0 z.length 1).isEmpty
abbrev nX:Stmt:=ij 25
def iN(r:Nw)(z:Str):Bool:=r.all (IQ z)
inductive iV(vs:List V)(H:Hp)(Q:VK)(_E:XK):Prop
 |mk (r:Nw) (z:Str) (_:vs=[.str (tx r),.str z]) (_:r.length<=100000) (_:∀H',az H H'->Q (.bl (iN r z)) H')
theorem zP:aw ["text","letters"] ["text","letters"] (aj nX):=by walk_at "c"
theorem Kr{i c:Nat}(h:(tx r).cps[i]?=some c):r[i]?=some c:=by
 rw[<- h];show r[i]?=r.toArray[i]?;simp
theorem JM(r:Nw):(tx r).cps.size=r.length:=by show r.toArray.size=_;simp
theorem z_{f:Addr}(F:cF K "only_of" "only_of" nX f fd)(nb:NB mg):↑aS 1 f fd ["text","letters"] iV:=by
 have sc:=zP;walk_at "f"
 ·obtain⟨r,z,rfl,hr',q⟩:=h
  refine⟨_,(ai (aF (av (Ek rfl) rfl nb.all HP (aa (cH ["sign"] [1] rfl (bE.of (by kernel_rfl)) (by kernel_rfl) (Hs (al 0))
    (λ_ _ _ _=>(aB (i:=0) (by show(["sign","letters"]:List Str).Nodup;decide +kernel) rfl (Or.inl rfl))) (λ_ _ _ _=>ce) (λ_ _ _ _=>(kK Bk (al 0) (al 1) (by with_unfolding_all rfl)))) ac)))),?_⟩
  ext;refine D5 (x:=tx r) (λi a σ g=>g=H/\a=((r.take i).map (IQ z)).map V.bl/\i<=r.length/\∃x,σ=[x,some (.str z)]) ⟨rfl,rfl,MX _,_,rfl⟩ ?_ ?_ ?_ ?_
  ·rintro i a σ g ⟨_,rfl,m,_⟩
   rw[MA,MA,Nb];exact bq ⋯
  ·rintro i a σ g ⟨_,_,h,_⟩
   rw[JM];exact h
  ·rintro i c a σ g n ⟨rfl,rfl,m,y,rfl⟩
   have b:=Kr n;have j:=(My.mp b).1;ext;refine⟨?_,j⟩;rw[q0D,b];simp
  ·rintro a σ g ⟨rfl,rfl,_⟩ l k
   refine⟨_,aW.of ad,?_⟩;rw[JM,Na];have e:(r.map (IQ z)).all id=iN r z:=by unfold iN;rw[List.all_map];rfl
   rw[e];exact q _ (ae k)
abbrev nK:Stmt:=ij 26
abbrev G6:Str:="ABCDEFGHIJKLMNOPQRSTUVWXYZ"
def dP(r:Nw):Bool:=decide (1<=r.length)&&decide (r.length<=4)&&iN r G6
inductive mr(vs:List V)(H:Hp)(Q:VK)(_E:XK):Prop
 |mk (r:Nw) (_:vs=[.str (tx r)]) (_:r.length<=100000) (_:∀H',az H H'->Q (.bl (dP r)) H')
theorem yT:aw ["text"] ["text"] (aj nK):=by walk_at "c"
theorem yF{f:Addr}{t1 t2:Tok}(F:cF K "is_name" "is_name" nK f fd)(nb:NB mg)(ya7:mg "LONGEST_NAME"=some (.int 4 t1))(ybs:mg "CAPITALS"=some (.str "ABCDEFGHIJKLMNOPQRSTUVWXYZ" t2))(yat:↑dU 1 "only_of" ["text","letters"] iV):↑aS 2 f fd ["text"] mr:=by
 have sc:=yT;walk_at "f"
 ·obtain⟨r,rfl,a,q⟩:=h
  refine⟨_,(ai (aF (lY (wz (bc.m0 pi) (bc.m0 pi) ah (av bb rfl nb.len aV (aa (al 0) ac)) (b_ (v:=.int 4) rfl ya7 ⟨_,rfl⟩)) (qV (aJ yat (hr.mono nofun) rfl ba (aa (al 0) (aa (b_ (v:=.str "ABCDEFGHIJKLMNOPQRSTUVWXYZ") rfl ybs ⟨_,rfl⟩) ac))))))),?_⟩;ext;refine⟨by rw[aA];exact ak ⋯,?_⟩;rw[aA];unfold dP at q
  by_cases h1:1<=r.length
  ·rw[q07 ⋯]
   by_cases h2:r.length<=4
   ·rw[q07 ⋯]
    refine⟨r,_,rfl,a,λc b=>?_⟩;have z:=q c b;rw[q09 h1,q09 h2]at z;exact z
   ·rw[q06 ⋯]
    have z:=q H (λ_ _ e=>e);rw[q09 h1,q08 h2]at z;exact z
  ·rw[q06 ⋯]
   have z:=q H (λ_ _ e=>e);rw[q08 h1]at z;exact z
abbrev eW:Stmt:=fu 27 0
inductive dG(K:W.Frag)(CF:Addr)(vs:List V)(H:Hp)(Q:VK)(E:XK):Prop
 |mk (a C dx l:Addr) (n:Nw) (c:Int) (ps:bN) (_:vs=[.ref a,.str (tx n),.int c,.ref l]) (_:H a=some (.ins C dx [])) (_:mK K C) (_:aq K C "name") (_:aq K C "cost") (_:aq K C "part_names") (_:H l=some (.lst (aH ps))) (_:ps.length<=1000) (_:(∀r∈n::ps,r.length<=100000)) (_:((∀r∈n::ps,dP r=true)/\1<=c/\c<=9->∀H',az H H'->Q .non (ay H' a (.ins C dx [("name",.str (tx n)),("cost",.int c),("part_names",.ref l)])))) (_:(¬ ((∀r∈n::ps,dP r=true)/\1<=c/\c<=9)->∀H',az H H'->E (.ref CF) none H'))
theorem vO:aw ["self","name","cost","part_names","text"] ["self","name","cost","part_names"] (aj eW):=by walk_at "c"
theorem uL{f zfa:Addr}(F:cF K "__init__" "Rule.__init__" eW f fd)(nb:NB mg)(zEa:mg "NoRule"=some (.ref zfa))(zza:XR K zfa)(yaE:↑dU 2 "is_name" ["text"] mr):aS P w K mg base (bG P w) 3 f fd ["self","name","cost","part_names"] (dG K zfa):=by
 have sc:=vO;walk_at "x"
 ·obtain⟨a,C,I,l,n,c,ps,rfl,_⟩:=h;rfl
 ·obtain⟨a,C,I,l,n,c,ps,rfl,ha,O,n1,Z,Y,hl,hpl,o,good,bad⟩:=h
  refine⟨_,(af (bP PassesOwn.leaving rfl (cK (au yz (bK (aa (al 1) ac)) (al 3))) (q02 4 sc.nd)
   (ai (bC (gU (gO (aJ (CX:=bG P w) yaE.lift (hr.mono nofun) rfl bt (aa (al 4) ac)) λ_=>rfl))
   (ai (dF zza rfl rfl zEa (fb λ_ _ _ h=>h) (bh ac)))
   aL)))
   (af (bC (PW.pt (iO (aK (bc.m0 tS) (al 2) ah (aN _)) (fH (aK (bc.m0 jx) (al 2) ah (aN _)))))
   (ai (dF zza rfl rfl zEa (fb λ_ _ _ h=>h) (bh ac)))
   aL)
   (af (dC (al 0) (al 1) rfl)
   (af (dC (al 0) (al 2) rfl)
   (ai (dC (al 0) (al 3) rfl)))))),?_⟩
  ext;refine⟨ak ⋯,λp hp=>?_⟩;have m1:az H (ay H p (.lst [V.str (tx n)])):=ae hp;have S:ay H p (.lst [V.str (tx n)]) p=some (.lst [V.str (tx n)]):=ad;generalize ay H p (.lst [V.str (tx n)])=H1 at m1 S ⊢;refine⟨_,S,_,m1 _ _ hl,by rw[ar];exact ak (by simp;omega),λy L=>?_⟩;have M:[V.str (tx n)]++aH ps=aH (n::ps):=rfl;rw[M];have R:az H1 (ay H1 y (.lst (aH (n::ps)))):=ae L;have G:ay H1 y (.lst (aH (n::ps))) y=some (.lst (aH (n::ps))):=ad;generalize ay H1 y (.lst (aH (n::ps)))=H2 at R G ⊢;generalize hqs:n::ps=qs at o good bad G ⊢;have m:=m1.trans R;refine⟨⟨_,aW.of G⟩,dO (xs:=aH qs) (λi σ q=>az H2 q/\(∀r∈qs.take i,dP r=true)/\∃x,σ=[some (.ref a),some (.str (tx n)),some (.int c),some (.ref l),x]) ⟨λ_ _ e=>e,by simp,_,rfl⟩ (λi σ q _ h=>aW.of (h.1 _ _ G)) ?_ ?_⟩
  ·rintro i v σ q J ⟨u,j,x,rfl⟩
   have B:i<qs.length:=by have:=(My.mp J).1;rwa [ar]at this
   rw[bp B]at J;cases J;ext;refine⟨_,rfl,o _ (MH B),λH3 k=>⟨_,rfl,?_⟩⟩
   by_cases D:dP qs[i]=true
   ·rw[q06 (by rw[D];decide)]
    refine⟨u.trans k,λr hr=>?_⟩;rw[q0D,Mx B]at hr;rcases MM.mp hr with h | h
    ·exact j r h
    ·rw[show r=qs[i] by simpa using h];exact D
   ·rw[q07 (by simpa using D)]
    exact⟨ak ⋯,bad (λh=>D (h.1 _ (MH B))) _ ((m.trans u).trans k)⟩
  ·rintro σ q ⟨u,j,x,rfl⟩
   rw[ar,Na]at j;have b:=m.trans u;ext
   by_cases U:c<1
   ·rw[q07 U]
    exact⟨ak ⋯,bad (λh=>by omega) _ b⟩
   ·rw[q06 U]
    by_cases T:9<c
    ·rw[q07 T]
     exact⟨ak ⋯,bad (λh=>by omega) _ b⟩
    ·rw[q06 T]
     have g:=good ⟨j,⋯,⋯⟩ q b;have l1:(cU "name" (V.str (tx n)) []).length<=1:=dw _ _ _;have l2:(cU "cost" (V.int c) (cU "name" (V.str (tx n)) [])).length<=2:=M6 (dw _ _ _) ⋯;have d1:¬ (("name":Str)="cost"):=by decide +kernel
     have d2:¬ (("name":Str)="part_names"):=by decide +kernel
     have d3:¬ (("cost":Str)="part_names"):=by decide +kernel
     have e:cU "part_names" (V.ref l) (cU "cost" (V.int c) (cU "name" (V.str (tx n)) []))=[(("name":Str),V.str (tx n)),(("cost":Str),V.int c),(("part_names":Str),V.ref l)]:=by
      simp only[cU,q06 d1,q06 d2,q06 d3]
     refine⟨C,I,[],b _ _ ha,O,n1,by simp,C,I,_,ad,O,Z,⋯,C,I,_,ad,O,Y,⋯,?_⟩;rw[nA,nA,e];exact g
def bY(a:Addr)(H H':Hp):Prop:=∀b o,b≠a->H b=some o->H' b=some o
theorem bY.of(s:az H H'):bY a H H':=λb o _ e=>s b o e
theorem bY.put(s:bY a H H'):bY a H (ay H' a o):=λb u hb e=>by rw[ao hb];exact s b u hb e
theorem bY.then(s:bY a H H')(t:az H' H2):bY a H H2:=λb u hb e=>t b u (s b u hb e)
abbrev HN:Str:="abcdefghijklmnopqrstuvwxyz"
def j9(r:Nw):Bool:=decide (r.length=1)&&iN r HN
def il(n:Nw)(ps:bN)(c:Int):Prop:=(∀r∈n::ps,dP r=true)/\1<=c/\c<=9
abbrev eD:Stmt:=fu 28 0
inductive iZ(K:W.Frag)(CF:Addr)(vs:List V)(H:Hp)(Q:VK)(E:XK):Prop
 |mk (a C dx:Addr) (n sg:Nw) (c:Int) (_:vs=[.ref a,.str (tx n),.int c,.str (tx sg)]) (_:H a=some (.ins C dx [])) (_:mK K C) (_:(aq K C "name"/\aq K C "cost"/\aq K C "part_names"/\aq K C "sign")) (_:n.length<=100000) (_:sg.length<=100000) (_:(il n [] c/\j9 sg=true->∀(l:Addr) (H':Hp),bY a H H'->H l=none->H' l=some (.lst [])->H' a=some (.ins C dx [("name",.str (tx n)),("cost",.int c),("part_names",.ref l),("sign",.str (tx sg))])->Q .non H')) (_:(¬ (il n [] c/\j9 sg=true)->∀H',bY a H H'->E (.ref CF) none H'))
theorem wm:aw ["self","name","cost","sign"] ["self","name","cost","sign"] (aj eD):=by walk_at "c"
theorem uP{f zfa:Addr}{t3:Tok}(F:cF K "__init__" "CellRule.__init__" eD f fd)(nb:NB mg)(yaH:mg "SMALLS"=some (.str "abcdefghijklmnopqrstuvwxyz" t3))(zEa:mg "NoRule"=some (.ref zfa))(zza:XR K zfa)
  (yat:↑dU 1 "only_of" ["text","letters"] iV) (zha:Ch P w K mg base (bG P w) 3 "Rule" "__init__" ["self","name","cost","part_names"] (dG K zfa)):aS P w K mg base (bG P w) 4 f fd ["self","name","cost","sign"] (iZ K zfa):=by
 have sc:=wm;walk_at "x"
 ·obtain⟨a,C,k,n,j,c,rfl,_⟩:=h;rfl
 ·obtain⟨a,C,k,n,j,c,rfl,G,L,⟨S,R,O,M⟩,T,B,good,bad⟩:=h
  refine⟨_,(af (bH (p_ (E:=E) zha (hr.mono nofun) rfl (aY λ_ _ _ h=>h) (aa (al 0) (aa (al 1) (aa (al 2) (aa (bK ac) ac))))))
   (af (bC (PW.pt (iO (aK wK (av bb rfl nb.len aV (aa (al 3) ac)) ah (aN _)) (fH (gU (gO (aJ (CX:=bG P w) yat.lift (hr.mono nofun) rfl bt (aa (al 3) (aa (b_ (v:=.str "abcdefghijklmnopqrstuvwxyz") rfl yaH ⟨_,rfl⟩) ac))) λ_=>rfl)))))
   (ai (dF zza rfl rfl zEa (fb λ_ _ _ h=>h) (bh ac)))
   aL)
   (ai (dC (al 0) (al 3) rfl)))),?_⟩
  ext;refine⟨MX _,λl u=>?_⟩;have m1:az H (ay H l (.lst [])):=ae u;have D:ay H l (.lst []) l=some (.lst []):=ad;generalize ay H l (.lst [])=H1 at m1 D ⊢;have o:l≠a:=λe=>by rw[e,G]at u;cases u
  refine⟨a,C,k,l,n,c,[],rfl,m1 _ _ G,L,S,R,O,D,by simp,λr hr=>by rw[show r=n by simpa using hr];exact T,λok p g=>?_,λy p g=>bad (λh=>y h.1) _ (.of (m1.trans g))⟩;have q:bY a H (ay p a (.ins C k [("name",.str (tx n)),("cost",.int c),("part_names",.ref l)])):=(bY.of (m1.trans g)).put;have J:ay p a (.ins C k [("name",.str (tx n)),("cost",.int c),("part_names",.ref l)]) a=some (.ins C k [("name",.str (tx n)),("cost",.int c),("part_names",.ref l)]):=ad;have I:ay p a (.ins C k [("name",.str (tx n)),("cost",.int c),("part_names",.ref l)]) l=some (.lst []):=by rw[ao o];exact g _ _ D
  generalize ay p a (.ins C k [("name",.str (tx n)),("cost",.int c),("part_names",.ref l)])=H3 at q J I ⊢
  try dsimp only
  have m:j9 j=true->j.length=1/\iN j HN=true:=λh=>by
   unfold j9 at h;rw[q0L,q0W]at h;exact h
  refine⟨by rw[aA];exact ak ⋯,?_⟩;rw[aA]
  by_cases h1:(j.length:Int)=1
  ·rw[q06 (λh=>h h1)]
   refine⟨j,_,rfl,B,λH4 b=>⟨_,rfl,?_⟩⟩
   by_cases x:iN j HN=true
   ·rw[q06 (by rw[x];decide)]
    have Z:¬ (("name":Str)="sign"):=by decide +kernel
    have Y:¬ (("cost":Str)="sign"):=by decide +kernel
    have U:¬ (("part_names":Str)="sign"):=by decide +kernel
    have e:cU "sign" (V.str (tx j)) [(("name":Str),V.str (tx n)),(("cost":Str),V.int c),(("part_names":Str),V.ref l)]=[(("name":Str),V.str (tx n)),(("cost":Str),V.int c),(("part_names":Str),V.ref l),(("sign":Str),V.str (tx j))]:=by
     simp only[cU,q06 Z,q06 Y,q06 U]
    refine⟨C,k,_,b _ _ J,L,M,by simp,?_⟩;rw[e];exact good ⟨ok,by unfold j9;rw[q09 ⋯,x];rfl⟩ l _ (q.then b).put u (by rw[ao o];exact b _ _ I) ad
   ·rw[q07 (by simpa using x)]
    exact⟨ak ⋯,bad (λh=>x (m h.2).2) _ (q.then b)⟩
  ·rw[q07 h1]
   exact⟨ak ⋯,bad (λh=>h1 (by have:=(m h.2).1;omega)) _ q⟩
inductive dD(K:W.Frag)(CF:Addr)(vs:List V)(H:Hp)(Q:VK)(E:XK):Prop
 |mk (a C dx:Addr) (n o1 o2:Nw) (c:Int) (_:vs=[.ref a,.str (tx n),.int c,.str (tx o1),.str (tx o2)]) (_:H a=some (.ins C dx [])) (_:mK K C) (_:(aq K C "name"/\aq K C "cost"/\aq K C "part_names"/\aq K C "one"/\aq K C "other")) (_:n.length<=100000) (_:o1.length<=100000) (_:o2.length<=100000) (_:(il n [o1,o2] c->∀(l:Addr) (H':Hp),bY a H H'->H l=none->H' l=some (.lst (aH [o1,o2]))->H' a=some (.ins C dx [("name",.str (tx n)),("cost",.int c),("part_names",.ref l),("one",.str (tx o1)),("other",.str (tx o2))])->Q .non H')) (_:(¬ il n [o1,o2] c->∀H',bY a H H'->E (.ref CF) none H'))
theorem xX{c:Int}:cU "other" (V.str (tx o2)) (cU "one" (V.str (tx o1)) [(("name":Str),V.str (tx n)),(("cost":Str),V.int c),(("part_names":Str),V.ref l)])=[(("name":Str),V.str (tx n)),(("cost":Str),V.int c),(("part_names":Str),V.ref l),(("one":Str),V.str (tx o1)),(("other":Str),V.str (tx o2))]:=by
 have m:¬ (("name":Str)="one"):=by decide +kernel
 have k:¬ (("cost":Str)="one"):=by decide +kernel
 have j:¬ (("part_names":Str)="one"):=by decide +kernel
 have g:¬ (("name":Str)="other"):=by decide +kernel
 have e:¬ (("cost":Str)="other"):=by decide +kernel
 have b:¬ (("part_names":Str)="other"):=by decide +kernel
 have a:¬ (("one":Str)="other"):=by decide +kernel
 simp only[cU,q06 m,q06 k,q06 j,q06 g,q06 e,q06 b,q06 a]
abbrev dq:Stmt:=fu 29 0
theorem rX:aw ["self","name","cost","one","other"] ["self","name","cost","one","other"] (aj dq):=by walk_at "c"
theorem rY{f zfa:Addr}(F:cF K "__init__" "BesideRule.__init__" dq f fd)(nb:NB mg)
  (zha:Ch P w K mg base (bG P w) 3 "Rule" "__init__" ["self","name","cost","part_names"] (dG K zfa)):aS P w K mg base (bG P w) 4 f fd ["self","name","cost","one","other"] (dD K zfa):=by
 have sc:=rX;walk_at "x"
 ·obtain⟨a,C,g,n,k,j,c,rfl,_⟩:=h;rfl
 ·obtain⟨a,C,g,n,k,j,c,rfl,D,y,⟨R,O,M,L,J⟩,S,v,u,good,bad⟩:=h
  refine⟨_,(af (bH (p_ (E:=E) zha (hr.mono nofun) rfl (aY λ_ _ _ h=>h) (aa (al 0) (aa (al 1) (aa (al 2) (aa (bK (aa (al 3) (aa (al 4) ac))) ac))))))
   (af (dC (al 0) (al 3) rfl)
   (ai (dC (al 0) (al 4) rfl)))),?_⟩
  ext;refine⟨ak ⋯,λl p=>?_⟩;have m1:az H (ay H l (.lst [V.str (tx k),V.str (tx j)])):=ae p;have x:ay H l (.lst [V.str (tx k),V.str (tx j)]) l=some (.lst (aH [k,j])):=ad;generalize ay H l (.lst [V.str (tx k),V.str (tx j)])=H1 at m1 x ⊢;have m:l≠a:=λe=>by rw[e,D]at p;cases p
  refine⟨a,C,g,l,n,c,[k,j],rfl,m1 _ _ D,y,R,O,M,x,by simp,λr hr=>?_,λok o b=>?_,λq o b=>bad (λh=>q h) _ (.of (m1.trans b))⟩
  ·have T:r=n\/r=k\/r=j:=by simpa using hr
   rcases T with rfl | rfl | rfl
   ·exact S
   ·exact v
   ·exact u
  ·have B:bY a H (ay o a a⁻¹):=(bY.of (m1.trans b)).put
   have I:ay o a a⁻¹ a=some a⁻¹:=ad;have G:ay o a a⁻¹ l=some (.lst (aH [k,j])):=by rw[ao m];exact b _ _ x
   generalize ay o a a⁻¹=H3 at B I G ⊢
   try dsimp only
   refine⟨C,g,_,I,y,L,by simp,C,g,_,ad,y,J,?_,?_⟩
   ·exact Nd (dw _ _ _) (by simp)
   ·rw[nA,xX]
    exact good ok l _ B.put p (by rw[ao m];exact G) ad
abbrev dL:Stmt:=fu 30 0
theorem sK:aw ["self","name","cost","one","other"] ["self","name","cost","one","other"] (aj dL):=by walk_at "c"
theorem sP{f zfa:Addr}(F:cF K "__init__" "AboveRule.__init__" dL f fd)(nb:NB mg)
  (zha:Ch P w K mg base (bG P w) 3 "Rule" "__init__" ["self","name","cost","part_names"] (dG K zfa)):aS P w K mg base (bG P w) 4 f fd ["self","name","cost","one","other"] (dD K zfa):=by
 have sc:=sK;walk_at "x"
 ·obtain⟨a,C,g,n,k,j,c,rfl,_⟩:=h;rfl
 ·obtain⟨a,C,g,n,k,j,c,rfl,D,y,⟨R,O,M,L,J⟩,S,v,u,good,bad⟩:=h
  refine⟨_,(af (bH (p_ (E:=E) zha (hr.mono nofun) rfl (aY λ_ _ _ h=>h) (aa (al 0) (aa (al 1) (aa (al 2) (aa (bK (aa (al 3) (aa (al 4) ac))) ac))))))
   (af (dC (al 0) (al 3) rfl)
   (ai (dC (al 0) (al 4) rfl)))),?_⟩
  ext;refine⟨ak ⋯,λl p=>?_⟩;have m1:az H (ay H l (.lst [V.str (tx k),V.str (tx j)])):=ae p;have x:ay H l (.lst [V.str (tx k),V.str (tx j)]) l=some (.lst (aH [k,j])):=ad;generalize ay H l (.lst [V.str (tx k),V.str (tx j)])=H1 at m1 x ⊢;have m:l≠a:=λe=>by rw[e,D]at p;cases p
  refine⟨a,C,g,l,n,c,[k,j],rfl,m1 _ _ D,y,R,O,M,x,by simp,λr hr=>?_,λok o b=>?_,λq o b=>bad (λh=>q h) _ (.of (m1.trans b))⟩
  ·have T:r=n\/r=k\/r=j:=by simpa using hr
   rcases T with rfl | rfl | rfl
   ·exact S
   ·exact v
   ·exact u
  ·have B:bY a H (ay o a a⁻¹):=(bY.of (m1.trans b)).put
   have I:ay o a a⁻¹ a=some a⁻¹:=ad;have G:ay o a a⁻¹ l=some (.lst (aH [k,j])):=by rw[ao m];exact b _ _ x
   generalize ay o a a⁻¹=H3 at B I G ⊢
   try dsimp only
   refine⟨C,g,_,I,y,L,by simp,C,g,_,ad,y,J,?_,?_⟩
   ·exact Nd (dw _ _ _) (by simp)
   ·rw[nA,xX]
    exact good ok l _ B.put p (by rw[ao m];exact G) ad
inductive jl(K:W.Frag)(CF:Addr)(vs:List V)(H:Hp)(Q:VK)(E:XK):Prop
 |mk (a C dx:Addr) (n o1:Nw) (c t:Int) (_:vs=[.ref a,.str (tx n),.int c,.str (tx o1),.int t]) (_:H a=some (.ins C dx [])) (_:mK K C) (_:(aq K C "name"/\aq K C "cost"/\aq K C "part_names"/\aq K C "part"/\aq K C "turning")) (_:n.length<=100000) (_:o1.length<=100000) (_:(il n [o1] c/\0<=t/\t<=7->∀(l:Addr) (H':Hp),bY a H H'->H l=none->H' l=some (.lst (aH [o1]))->H' a=some (.ins C dx [("name",.str (tx n)),("cost",.int c),("part_names",.ref l),("part",.str (tx o1)),("turning",.int t)])->Q .non H')) (_:(¬ (il n [o1] c/\0<=t/\t<=7)->∀H',bY a H H'->E (.ref CF) none H'))
theorem Df{c t:Int}:cU "turning" (V.int t) (cU "part" (V.str (tx o1)) [(("name":Str),V.str (tx n)),(("cost":Str),V.int c),(("part_names":Str),V.ref l)])=[(("name":Str),V.str (tx n)),(("cost":Str),V.int c),(("part_names":Str),V.ref l),(("part":Str),V.str (tx o1)),(("turning":Str),V.int t)]:=by
 have m:¬ (("name":Str)="part"):=by decide +kernel
 have k:¬ (("cost":Str)="part"):=by decide +kernel
 have j:¬ (("part_names":Str)="part"):=by decide +kernel
 have g:¬ (("name":Str)="turning"):=by decide +kernel
 have e:¬ (("cost":Str)="turning"):=by decide +kernel
 have b:¬ (("part_names":Str)="turning"):=by decide +kernel
 have a:¬ (("part":Str)="turning"):=by decide +kernel
 simp only[cU,q06 m,q06 k,q06 j,q06 g,q06 e,q06 b,q06 a]
abbrev d_:Stmt:=fu 31 0
theorem vM:aw ["self","name","cost","part","turning"] ["self","name","cost","part","turning"] (aj d_):=by walk_at "c"
theorem vz{f zfa:Addr}(F:cF K "__init__" "TurnRule.__init__" d_ f fd)(nb:NB mg)(zEa:mg "NoRule"=some (.ref zfa))(zza:XR K zfa)
  (zha:Ch P w K mg base (bG P w) 3 "Rule" "__init__" ["self","name","cost","part_names"] (dG K zfa)):aS P w K mg base (bG P w) 4 f fd ["self","name","cost","part","turning"] (jl K zfa):=by
 have sc:=vM;walk_at "x"
 ·obtain⟨a,C,g,n,j,c,t,rfl,_⟩:=h;rfl
 ·obtain⟨a,C,g,n,j,c,t,rfl,D,x,⟨R,O,M,L,J⟩,S,u,good,bad⟩:=h
  refine⟨_,(af (bH (p_ (E:=E) zha (hr.mono nofun) rfl (aY λ_ _ _ h=>h) (aa (al 0) (aa (al 1) (aa (al 2) (aa (bK (aa (al 3) ac)) ac))))))
   (af (bC (PW.pt (iO (aK (bc.m0 tS) (al 4) ah (aN _)) (fH (aK (bc.m0 jx) (al 4) ah (aN _)))))
   (ai (dF zza rfl rfl zEa (fb λ_ _ _ h=>h) (bh ac)))
   aL)
   (af (dC (al 0) (al 3) rfl)
   (ai (dC (al 0) (al 4) rfl))))),?_⟩
  ext;refine⟨ak ⋯,λl p=>?_⟩;have m1:az H (ay H l (.lst [V.str (tx j)])):=ae p;have v:ay H l (.lst [V.str (tx j)]) l=some (.lst (aH [j])):=ad;generalize ay H l (.lst [V.str (tx j)])=H1 at m1 v ⊢;have k:l≠a:=λe=>by rw[e,D]at p;cases p
  refine⟨a,C,g,l,n,c,[j],rfl,m1 _ _ D,x,R,O,M,v,by simp,λr hr=>?_,λok m b=>?_,λq m b=>bad (λh=>q h.1) _ (.of (m1.trans b))⟩
  ·have T:r=n\/r=j:=by simpa using hr
   rcases T with rfl | rfl
   ·exact S
   ·exact u
  ·have o:bY a H (ay m a a⁻¹):=(bY.of (m1.trans b)).put
   have I:ay m a a⁻¹ a=some a⁻¹:=ad;have G:ay m a a⁻¹ l=some (.lst (aH [j])):=by rw[ao k];exact b _ _ v
   generalize ay m a a⁻¹=H3 at o I G ⊢
   try dsimp only
   by_cases B:t<0
   ·rw[q07 B]
    exact⟨ak ⋯,bad (λh=>by omega) _ o⟩
   ·rw[q06 B]
    by_cases y:7<t
    ·rw[q07 y]
     exact⟨ak ⋯,bad (λh=>by omega) _ o⟩
    ·rw[q06 y]
     refine⟨C,g,_,I,x,L,by simp,C,g,_,ad,x,J,?_,?_⟩
     ·exact Nd (dw _ _ _) (by simp)
     ·rw[nA,Df]
      exact good ⟨ok,⋯,⋯⟩ l _ o.put p (by rw[ao k];exact G) ad
abbrev dH:Stmt:=fu 27 1
inductive cO(K:W.Frag)(vs:List V)(H:Hp)(Q:VK)(_E:XK):Prop
 |mk (a C dx l:Addr) (fs:List (Str×V)) (ps:bN) (_:vs=[.ref a]) (_:H a=some (.ins C dx fs)) (_:mK K C) (_:aq K C "part_names") (_:fs.lookup ("part_names":Str)=some (V.ref l)) (_:H l=some (.lst (aH ps))) (_:c8 H ps Q)
theorem sy:aw ["self"] ["self"] (aj dH):=by walk_at "c"
theorem fJ{f:Addr}(F:cF K "parts" "Rule.parts" dH f fd)(nb:NB mg):↑aS 1 f fd ["self"] (cO K):=by
 have sc:=sy;walk_at "f"
 ·obtain⟨a,C,m,l,fs,ps,rfl,k,n,c,e,j,q⟩:=h
  refine⟨_,(ai (aF (eG cV rfl nb.list jm (aa (bJ (al 0) rfl) ac)))),?_⟩;ext;refine⟨C,m,fs,k,n,c,V.ref l,e,l,rfl,_,.inl (aW.of j),λg b=>q g _ b ad (ae b)⟩
abbrev GK(n:Nw)(c:Int)(l:Addr)(sg:Nw):List (Str×V):=[("name",.str (tx n)),("cost",.int c),("part_names",.ref l),("sign",.str (tx sg))]
abbrev Fm(n:Nw)(c:Int)(l:Addr)(o1 o2:Nw):List (Str×V):=[("name",.str (tx n)),("cost",.int c),("part_names",.ref l),("one",.str (tx o1)),("other",.str (tx o2))]
abbrev GT(n:Nw)(c:Int)(l:Addr)(o1:Nw)(t:Int):List (Str×V):=[("name",.str (tx n)),("cost",.int c),("part_names",.ref l),("part",.str (tx o1)),("turning",.int t)]
theorem kS(h:dP r=true):1<=r.length/\r.length<=4:=by
 unfold dP at h;rw[q0L,q0L,q0W,q0W]at h;exact h.1
theorem nR(h:j9 r=true):r.length=1:=by
 unfold j9 at h;rw[q0L,q0W]at h;exact h.1
theorem am{a b:TS}{D:iJ}{σ:St}(h:∀N:St->Hp->Prop,(∀σ2 H2,b D σ2 H2->N σ2 H2)->a {D with nx:=N} σ H):B8 a b D σ H:=h (b D) λ_ _ z=>z
structure RV where
 n:List Nat
 c:Int
 o1:List Nat
 o2:List Nat
 sg:List Nat
 t:Int
abbrev Yaa:=List (Nat×RV)
structure RC where
 rr:Addr
 cc:Addr
 cb:Addr
 ca:Addr
 ct:Addr
def RC.at(R:RC)(k:Nat):Addr:=match k with | 0=>R.cc | 1=>R.cb | 2=>R.ca | _=>R.ct
def xB(k:Nat)(l:Addr)(v:RV):List (Str×V):=match k with | 0=>GK v.n v.c l v.sg | 1=>Fm v.n v.c l v.o1 v.o2 | 2=>Fm v.n v.c l v.o1 v.o2 | _=>GT v.n v.c l v.o1 v.t
def aO(k:Nat)(v:RV):bN:=match k with | 0=>[] | 1=>[v.o1,v.o2] | 2=>[v.o1,v.o2] | _=>[v.o1]
def J3(k:Nat)(v:RV):Prop:=match k with | 0=>il v.n [] v.c/\j9 v.sg=true | 1=>il v.n [v.o1,v.o2] v.c | 2=>il v.n [v.o1,v.o2] v.c | _=>il v.n [v.o1] v.c/\0<=v.t/\v.t<=7
structure RV.small(v:RV):Prop where
 n:v.n.length<=1000
 o1:v.o1.length<=1000
 o2:v.o2.length<=1000
 sg:v.sg.length<=1000
structure RV.good(v:RV):Prop where
 n:dP v.n=true
 c1:1<=v.c
 c9:v.c<=9
 o1:dP v.o1=true
 o2:dP v.o2=true
 sg:j9 v.sg=true
 t0:0<=v.t
 t7:v.t<=7
theorem RV.good.small{v:RV}(g:v.good):v.small:=⟨by have:=kS g.n;omega,by have:=kS g.o1;omega,by have:=kS g.o2;omega,by have:=nR g.sg;omega⟩
theorem RV.good.ok{v:RV}(g:v.good):∀k,J3 k v
 |0=>⟨⟨λr hr=>by rw[show r=v.n by simpa using hr];exact g.n,g.c1,g.c9⟩,g.sg⟩
 |1=>⟨λr hr=>by rcases(show r=v.n\/r=v.o1\/r=v.o2 by simpa using hr) with rfl | rfl | rfl<;>first | exact g.n | exact g.o1 | exact g.o2,g.c1,g.c9⟩
 |2=>⟨λr hr=>by rcases(show r=v.n\/r=v.o1\/r=v.o2 by simpa using hr) with rfl | rfl | rfl<;>first | exact g.n | exact g.o1 | exact g.o2,g.c1,g.c9⟩
 |_+3=>⟨⟨λr hr=>by rcases(show r=v.n\/r=v.o1 by simpa using hr) with rfl | rfl<;>first | exact g.n | exact g.o1,g.c1,g.c9⟩,g.t0,g.t7⟩
def jt(R:RC)(H:Hp)(k:Nat)(a:Addr)(v:RV):Prop:=∃dx l,H a=some (.ins (R.at k) dx (xB k l v))/\H l=some (.lst (aH (aO k v)))
theorem jt.up(r:jt R H k a v)(s:az H H'):jt R H' k a v:=by
 obtain⟨b,l,h1,h2⟩:=r;exact⟨b,l,s _ _ h1,s _ _ h2⟩
structure pJ(K:W.Frag)(R:RC):Prop where
 i0:fQ K R.cc
 i1:fQ K R.cb
 i2:fQ K R.ca
 i3:fQ K R.ct
 a0:aq K R.cc "name"/\aq K R.cc "cost"/\aq K R.cc "part_names"/\aq K R.cc "sign"
 a1:aq K R.cb "name"/\aq K R.cb "cost"/\aq K R.cb "part_names"/\aq K R.cb "one"/\aq K R.cb "other"
 a2:aq K R.ca "name"/\aq K R.ca "cost"/\aq K R.ca "part_names"/\aq K R.ca "one"/\aq K R.ca "other"
 a3:aq K R.ct "name"/\aq K R.ct "cost"/\aq K R.ct "part_names"/\aq K R.ct "part"/\aq K R.ct "turning"
 r0:W.kitOne K (.ref R.cc) (.ref R.rr)=some true
 r1:W.kitOne K (.ref R.cb) (.ref R.rr)=some true
 r2:W.kitOne K (.ref R.ca) (.ref R.rr)=some true
 r3:W.kitOne K (.ref R.ct) (.ref R.rr)=some true
 s0:W.kitOne K (.ref R.cc) (.ref R.cc)=some true
 s1:W.kitOne K (.ref R.cb) (.ref R.cb)=some true
 s2:W.kitOne K (.ref R.ca) (.ref R.ca)=some true
 s3:W.kitOne K (.ref R.ct) (.ref R.ct)=some true
theorem pJ.icls(rk:pJ K R):∀k,fQ K (R.at k)
 |0=>rk.i0
 |1=>rk.i1
 |2=>rk.i2
 |_+3=>rk.i3
theorem pJ.name(rk:pJ K R):∀k,aq K (R.at k) "name"/\aq K (R.at k) "cost"/\aq K (R.at k) "part_names"
 |0=>⟨rk.a0.1,rk.a0.2.1,rk.a0.2.2.1⟩
 |1=>⟨rk.a1.1,rk.a1.2.1,rk.a1.2.2.1⟩
 |2=>⟨rk.a2.1,rk.a2.2.1,rk.a2.2.2.1⟩
 |_+3=>⟨rk.a3.1,rk.a3.2.1,rk.a3.2.2.1⟩
theorem iT(l:Addr)(v:RV):∀k,(xB k l v).lookup ("name":Str)=some (V.str (tx v.n))/\(xB k l v).lookup ("cost":Str)=some (V.int v.c)/\(xB k l v).lookup ("part_names":Str)=some (V.ref l)/\(xB k l v).lookup ("parts":Str)=none/\(xB k l v).lookup ("told":Str)=none
 |0=>⟨rfl,rfl,rfl,rfl,rfl⟩
 |1=>⟨rfl,rfl,rfl,rfl,rfl⟩
 |2=>⟨rfl,rfl,rfl,rfl,rfl⟩
 |_+3=>⟨rfl,rfl,rfl,rfl,rfl⟩
theorem kU{H1 H2:Hp}(hx:H1 x=none)(hd:H1 dx=none)(s:bY x (ay (ay H1 dx o) x o') H2):az H1 H2:=
 λb u e=>s b u (aI e hx) (by rw[ao (aI e hx),ao (aI e hd)];exact e)
theorem Dc{CX:kC}(h0:∃ps,cg P w K mg base CX k C0 m ps s0)(h1:∃ps,cg P w K mg base CX k C1 m ps s1)(h2:∃ps,cg P w K mg base CX k C2 m ps s2)(h3:∃ps,cg P w K mg base CX k C3 m ps s3) :
  pO P w K mg base CX k m [(C0,s0),(C1,s1),(C2,s2),(C3,s3)]:=⟨λo ho=>by
 simp only[MO,List.not_mem_nil,or_false]at ho;rcases ho with rfl | rfl | rfl | rfl
 ·exact h0
 ·exact h1
 ·exact h2
 ·exact h3⟩
def n8(K:W.Frag)(R:RC):List (Addr×Sp):=[(R.cc,cO K),(R.cb,cO K),(R.ca,cO K),(R.ct,cO K)]
theorem tW{R:RC}{k a}{v:RV}{Q:VK}{E:XK}(rk:pJ K R)(r:jt R H k a v)(q:c8 H (aO k v) Q) :
  ∃o∈n8 K R,∃dx fs,H a=some (.ins o.1 dx fs)/\fs.lookup ("parts":Str)=none/\o.2 [.ref a] H Q E:=by
 obtain⟨dx,l,h1,h2⟩:=r;have b:cO K [.ref a] H Q E:=⟨a,R.at k,dx,l,_,_,rfl,h1,(rk.icls k).cl,(rk.name k).2.2,(iT l v k).2.2.1,h2,q⟩;have mem:(R.at k,cO K)∈n8 K R:=by
  unfold n8
  match k with
  |0=>simp[RC.at]
  |1=>simp[RC.at]
  |2=>simp[RC.at]
  |_+3=>simp[RC.at]
 exact⟨_,mem,dx,_,h1,(iT l v k).2.2.2.1,b⟩
abbrev kc:Stmt:=ij 55
abbrev qk:Str:="abcdefghijklmnopqrstuvwxyz"
def fm(r:Nw):Bool:=decide (1<=r.length)&&decide (r.length<=4)&&iN r qk&&decide ((met (dM (tx r))).length=r.length)
inductive nw(vs:List V)(H:Hp)(Q:VK)(_E:XK):Prop
 |mk (r:Nw) (_:vs=[.str (tx r)]) (_:r.length<=1000) (_:∀H',az H H'->Q (.bl (fm r)) H')
theorem vd:aw ["text"] ["text"] (aj kc):=by walk_at "c"
theorem ve{f:Addr}{t1 t2:Tok}(F:cF K "are_signs" "are_signs" kc f fd)(nb:NB mg)(ybl:mg "MOST_SIGNS"=some (.int 4 t1))(yaH:mg "SMALLS"=some (.str "abcdefghijklmnopqrstuvwxyz" t2))(yat:↑dU 1 "only_of" ["text","letters"] iV):↑aS 2 f fd ["text"] nw:=by
 have sc:=vd;walk_at "f"
 ·obtain⟨r,rfl,hr',q⟩:=h
  refine⟨_,(ai (aF (lY (wz (bc.m0 pi) (bc.m0 pi) ah (av bb rfl nb.len aV (aa (al 0) ac)) (b_ (v:=.int 4) rfl ybl ⟨_,rfl⟩)) (lY (aJ yat (hr.mono nofun) rfl ba (aa (al 0) (aa (b_ (v:=.str "abcdefghijklmnopqrstuvwxyz") rfl yaH ⟨_,rfl⟩) ac))) (qV (kK fq (A_ rfl (al 0) rfl nb.len rfl nb.set) (av bb rfl nb.len aV (aa (al 0) ac)) (aN _))))))),?_⟩;ext;refine⟨by rw[aA];exact ak ⋯,?_⟩;rw[aA];unfold fm at q
  by_cases h1:1<=r.length
  ·rw[q07 ⋯]
   by_cases h2:r.length<=4
   ·rw[q07 ⋯]
    refine⟨r,_,rfl,⋯,λc b=>⟨_,rfl,?_⟩⟩;have z:=q c b;rw[q09 h1,q09 h2]at z;cases a:iN r qk with
    |false=>
     rw[a]at z;rw[q06 (by simp)];exact z
    |true=>
     rw[a]at z;rw[q07 rfl];refine⟨by rw[JM];unfold scanBound;omega,by exact ak ⋯,?_⟩;have e:decide (((met (dM (tx r))).length:Int)=(r.length:Int))=decide ((met (dM (tx r))).length=r.length):=by
      apply decide_eq_decide.mpr
      constructor<;>intro h<;>omega
     rw[e];exact z
   ·rw[q06 ⋯]
    have z:=q H (λ_ _ e=>e);rw[q09 h1,q08 h2]at z;exact z
  ·rw[q06 ⋯]
   have z:=q H (λ_ _ e=>e);rw[q08 h1]at z;exact z
def Ih(y:Str×List Int):List V:=.str y.1::y.2.map V.int
theorem Fh{α:Type}{l:List α}{i:Nat}{x:α}(h:l[i]?=some x):l.drop i=x::l.drop (i+1):=by
 obtain⟨a,e⟩:=My.mp h;rw[List.drop_eq_getElem_cons a,e]
def yy(C:Addr)(H:Hp)(y:Str×List Int)(E:XK):Prop:=∀(t d:Addr) (H':Hp),az H H'->H' t=some (.tup (Ih y))->H' d=some (.xd [("why",.ref t)])->E (.ref C) (some d) H'
theorem yy.made(b:yy C H y E)(sm:az H H'){p d:Addr}(hp:H' p=none)(hd:ay H' p (.tup (Ih y)) d=none):E (.ref C) (some d) (ay (ay H' p (.tup (Ih y))) d (.xd [("why",.ref p)])):=by
 have a:p≠d:=λx=>by rw[<- x,ad]at hd;cases hd
 exact b p d _ ((sm.trans (ae hp)).trans (ae hd)) (by rw[ao a,ad]) ad
structure GN(K:W.Frag)(R:RC):Prop where
 kit:∀i j,i<4->j<4->W.kitOne K (.ref (R.at i)) (.ref (R.at j))=some (decide (i=j))
abbrev kQ:Stmt:=fu 5 0
theorem DG:aw ["self","why"] ["self","why"] (aj kQ):=by walk_at "c"
theorem Ey{f:Addr}(F:cF K "__init__" "NoGrammar.__init__" kQ f fd)(xs:W.XSt K C "why"):↑aS 1 f fd ["self","why"] (nr C "why"):=by
 have sc:=DG;refine F.ok sc (λvs H Q E h=>by obtain⟨_,_,h,_⟩:=h;rw[h];rfl) (λcdv A outer s H vs Q E hr h=>?_)
 ·obtain⟨a,v,rfl,c,q⟩:=h
  refine⟨_,(ai (AB (pv 0) (pv 1) rfl)),?_⟩;ext;exact⟨C,c,xs,λd b=>q d b⟩
abbrev Jf(z x:Str):Bool:=!(Builtin.Str.occurrences z x 0 z.length 1).isEmpty
def hV(sg:Str):Yaa->Nat->Option Nat
 | [],_=>none
 |r::rs,j=>if r.1=0/\Jf sg (tx r.2.sg)=false then some j else hV sg rs (j+1)
def i_(sg st:Nw)(rs:Yaa):Option (Str×List Int):=
 if fm sg=false then some ("signs",[]) else if dP st=false then some ("start",[]) else if 24<rs.length then some ("rules",[(rs.length:Int)]) else
  match hV (tx sg) rs 0 with
  |some k=>some ("sign",[(k:Int)])
  |none=>none
abbrev fT:Stmt:=ij 54
def cT(R:RC)(H:Hp)(as:NA)(rs:Yaa):Prop:=as.length=rs.length/\∀(i:Nat) a r,as[i]?=some a->rs[i]?=some r->jt R H r.1 a r.2
theorem cT.up(h:cT R H as rs)(s:az H H'):cT R H' as rs:=⟨h.1,λi a r e1 e2=>(h.2 i a r e1 e2).up s⟩
inductive iP(R:RC)(C:Addr)(vs:List V)(H:Hp)(Q:VK)(E:XK):Prop
 |mk (sg st:Nw) (a:Addr) (as:NA) (rs:Yaa) (_:vs=[.str (tx sg),.str (tx st),.ref a]) (_:sg.length<=1000) (_:st.length<=1000) (_:H a=some (.lst (as.map V.ref))) (_:cT R H as rs) (_:(∀r∈rs,r.1<4)) (_:rs.length<=100) (_:(i_ sg st rs=none->∀H',az H H'->Q .non H')) (_:∀y,i_ sg st rs=some y->yy C H y E)
theorem on:aw ["signs","start","rules","k","rule"] ["signs","start","rules"] (aj fT):=by walk_at "c"
theorem og{f zda:Addr}{t1:Tok}(F:cF K "check_made_of" "check_made_of" fT f fd)(nb:NB mg)(rk:pJ K R)(rk4:GN K R)(ybd:mg "MOST_RULES"=some (.int 24 t1))(zyb:mg "CellRule"=some (.ref R.cc))
  (zua:mg "NoGrammar"=some (.ref zda)) (zna:XI P w K mg base 1 zda "why") (ybi:↑dU 2 "are_signs" ["text"] nw) (yaE:↑dU 2 "is_name" ["text"] mr):aS P w K mg base (bG P w) 3 f fd ["signs","start","rules"] (iP R zda):=by
 have sc:=on;walk_at "x"
 ·obtain⟨sg,I,a,Y,j,rfl,_⟩:=h;rfl
 ·obtain⟨sg,I,a,Y,j,rfl,a2,hst,ha,L,a4,hn,good,bad⟩:=h
  refine⟨_,(af (bC (gU (gO (aJ (CX:=bG P w) ybi.lift (hr.mono nofun) rfl bt (aa (al 0) ac)) λ_=>rfl))
   (ai (d8 zna (hr.mono nofun) rfl rfl zua (eC λ_ _ _ h=>h) (aa (aG (bh ac)) ac)))
   aL)
   (af (bC (gU (gO (aJ (CX:=bG P w) yaE.lift (hr.mono nofun) rfl bt (aa (al 1) ac)) λ_=>rfl))
   (ai (d8 zna (hr.mono nofun) rfl rfl zua (eC λ_ _ _ h=>h) (aa (aG (bh ac)) ac)))
   aL)
   (af (bC (aK (bc.m0 jx) (av bi rfl nb.len aV (aa (al 2) ac)) (b_ (v:=.int 24) rfl ybd ⟨_,rfl⟩) (aN _))
   (ai (d8 zna (hr.mono nofun) rfl rfl zua (eC λ_ _ _ h=>h) (aa (aG (bh (aa (av bi rfl nb.len aV (aa (al 2) ac)) ac))) ac)))
   aL)
   (ai (bP PassesOwn.leaving rfl (qa rfl nb.enumerate (aa (al 2) ac)) (fB (n:=2) rfl (aM (q02 3 sc.nd) (aM (q02 4 sc.nd) cY)))
   (ai (bC (PW.pt (l7 (gO (av jv rfl nb.isinstance bO (aa (al 4) (aa (b_ (v:=.ref _) rfl zyb rfl) ac))) λ_=>rfl) (nE (aK uQ (bJ (al 4) rfl) (al 0) (by with_unfolding_all rfl)))))
   (ai (d8 zna (hr.mono nofun) rfl rfl zua (eC λ_ _ _ h=>h) (aa (aG (bh (aa (al 3) ac))) ac)))
   aL))))))),?_⟩
  have b:∀(m:Hp) (y:Str×List Int),az H m->i_ sg I j=some y->∀p,m p=none->1<=sizeLine/\∀d,ay m p (.tup (Ih y)) d=none->E (.ref zda) (some d) (ay (ay m p (.tup (Ih y))) d (.xd [("why",.ref p)])):=
   λm y B hy p hp=>⟨ak ⋯,λd hd=>(bad y hy).made B hp hd⟩
  symm;refine⟨sg,rfl,a2,λH1 J=>⟨_,rfl,?_⟩⟩;unfold i_ at good b;cases e1:fm sg with
  |false=>
   rw[q07 rfl];rw[q07 e1]at b;exact⟨ak ⋯,b H1 _ J rfl⟩
  |true=>
  rw[q06 nofun];rw[q06 (by rw[e1];decide)]at good b;refine h1 _ _ ?_;clear h1;ac_nf;refine⟨I,rfl,⋯,λH2 a1=>⟨_,rfl,?_⟩⟩;have c:=J.trans a1;cases e2:dP I with
  |false=>
   rw[q07 rfl];rw[q07 e2]at b;exact⟨ak ⋯,b H2 _ c rfl⟩
  |true=>
  rw[q06 nofun];rw[q06 (by rw[e2];decide)]at good b;refine h2 _ _ ?_;clear h2;have D:=c _ _ ha;have q:(Y.map V.ref).length=j.length:=by rw[MA];exact L.1
  refine am λN3 h3=>?_;ext;refine⟨_,aW.of D,?_⟩;rw[q]
  by_cases U:24<j.length
  ·rw[q07 ⋯]
   rw[q07 U]at b;refine⟨_,aW.of D,ak ⋯,?_⟩;rw[q];exact b H2 _ c rfl
  rw[q06 ⋯];rw[q06 U]at good b;refine h3 _ _ ?_;clear h3;ext;refine⟨_,aW.of D,?_⟩;refine kO (xs:=Y.map V.ref) (λi σ m=>az H m/\hV (tx sg) (j.drop i) i=hV (tx sg) j 0/\∃x y,σ=[some (.str (tx sg)),some (.str (tx I)),some (.ref a),x,y]) ⟨c,rfl,_,_,rfl⟩ ?_ ?_ ?_
  ·rintro i σ m _ ⟨B,_⟩
   exact aW.of (B _ _ ha)
  ·rintro i x σ H3 T G ⟨B,S,x1,y1,rfl⟩ hT
   have O:i<j.length:=by have:=(My.mp G).1;rw[q]at this;exact this
   obtain⟨l,a3,rfl⟩:∃l,Y[i]?=some l/\V.ref l=x:=by
    rw[MC]at G;cases e:Y[i]? with
    |none=>rw[e]at G;cases G
    |some l=>rw[e]at G;exact⟨l,rfl,q0P G⟩
   have C:j[i]?=some j[i]:=Mx O;have M:=a4 _ (MH O);generalize j[i]=r at C M;rw[Fh C]at S;have k:az H (ay H3 T (.tup [V.int (i:Int),V.ref l])):=B.trans (ae hT);have eT:ay H3 T (.tup [V.int (i:Int),V.ref l]) T=some (.tup [V.int (i:Int),V.ref l]):=ad;generalize ay H3 T (.tup [V.int (i:Int),V.ref l])=H4 at k eT ⊢;have rr:=(L.2 i l r a3 C).up k;obtain⟨dx,pl,u,_⟩:=id rr;ext;refine⟨_,aZ.of eT,rfl,_,_,rfl,_,_,rfl,rfl,?_⟩;refine⟨_,(rk.icls r.1).ty u,_,rk4.kit r.1 0 M nofun,?_⟩;have g:(if r.1=0/\Jf (tx sg) (tx r.2.sg)=false then some i else hV (tx sg) (j.drop (i+1)) (i+1))=hV (tx sg) j 0:=S
   by_cases Z:r.1=0
   ·rw[q07 (by simp[Z])]
    obtain⟨r0,v⟩:=r;have a5:r0=0:=Z;subst a5;refine⟨l,rfl,_,_,_,u,rk.i0.cl,rk.a0.2.2.2,_,rfl,_,rfl,?_⟩;cases o:Jf (tx sg) (tx v.sg) with
    |false=>
     rw[q07 o];rw[q07 ⟨rfl,o⟩]at g;rw[<- g]at b;exact⟨ak ⋯,b H4 _ k rfl⟩
    |true=>
     rw[q06 (by rw[show(!(Builtin.Str.occurrences (tx sg) (tx v.sg) 0 (tx sg).length 1).isEmpty)=true from o];decide)];rw[q06 (λz=>by rw[o]at z;exact q0N z.2 nofun)]at g;exact⟨k,g⟩
   ·rw[q06 (by simp[Z])]
    rw[q06 (λz=>Z z.1)]at g;exact⟨k,g⟩
  ·rintro σ m ⟨B,S,x,y,rfl⟩
   ext;rw[q,List.drop_of_length_le (MW _)]at S;refine good ?_ m B;rw[<- S];rfl
def jz(m:List (Str×List Nat))(z:Str)(i:Nat):List (Str×List Nat):=m.map λq=>if q.1=z then(q.1,q.2++[i]) else q
structure wa(H0:Hp)(p:Addr)(t:NT)(H:Hp):Prop where
 same:az H0 H
 at_:dy H p t
 fresh:∀x∈t,H0 x.2.1=none
 nodup:((ku t).map (·.1)).Nodup
theorem rM(t:NT):(ku t).length=t.length:=by unfold ku;rw[MA]
theorem tf(m:List (Str×List Nat))(z:Str):(cn m z).length<=m.length+1:=by
 unfold cn;split
 ·omega
 ·rw[MV];simp
theorem jq(m:List (Str×List Nat))(z:Str)(i:Nat):(jz m z i).map (·.1)=m.map (·.1):=by
 unfold jz;rw[MN]
 apply q0H;intro q _;simp only[Function.comp]
 split<;>rfl
theorem BG{m:List (Str×List Nat)}{j i:Nat}{q:Str×List Nat}(nd:(m.map (·.1)).Nodup)(hj:m[j]?=some q):m.set j (q.1,q.2++[i])=jz m q.1 i:=by
 unfold jz;apply List.ext_getElem?;intro k;rw[MC,List.getElem?_set];have b:j<m.length:=(My.mp hj).1
 by_cases e:j=k
 ·subst e
  rw[q07 rfl,q07 b,hj];simp
 ·rw[q06 e]
  cases c:m[k]? with
  |none=>rfl
  |some y=>
   have a:y.1≠q.1:=by
    intro h;have h1:(m.map (·.1))[j]?=some q.1:=by rw[MC,hj];rfl
    have h2:(m.map (·.1))[k]?=some q.1:=by rw[MC,c];simp[h]
    exact e ((List.getElem?_inj (My.mp h1).1 nd).mp (h1.trans h2.symm))
   simp[a]
theorem wa.free{t:NT}(N:wa H0 p t H){l:Addr}(h:H l=none):H0 l=none:=N.same.free h
theorem oX{te:TE}{σ:St}{H0 H:Hp}{t:NT}{z:Str}{i:Nat}{Q:VK}(hp:H0 p=none)(hv:σ[i]?=some (some (.ref p)))(hte:∀R:VK,R (.str z) H->te σ H R)(N:wa H0 p t H)(hn:t.length<sizeLine)
  (h:∀(H':Hp) (t':NT) (j:Nat) (x:Str×Addr×List Nat),wa H0 p t' H'->t'[j]?=some x->x.1=z->ku t'=cn (ku t) z->t'.length<=t.length+1->(∀a o,a≠p->H a=some o->H' a=some o)->Q (.ref x.2.1) H'):wG (Cu i) te (Gy uX) σ H Q:=by
 refine⟨.ref p,hv,p,rfl,.inl ⟨_,.inl N.at_.dict⟩,hte _ ⟨MX _,λl m=>?_⟩⟩;have k:=N.free m;refine N.at_.setdef m hn λH' t' j x w v u g r n=>h H' t' j x ⟨λb o e=>n b o (λq=>by rw[q,hp]at e;exact nomatch e) (N.same b o e),w,λy c=>?_,?_⟩ v u g ?_ n
 ·rcases r y c with q | q
  ·exact N.fresh y q
  ·rw[q];exact k
 ·rw[g];exact m3 N.nodup
 ·have:=tf (ku t) z
  rw[<- g,rM,rM]at this;exact this
theorem wa.put{t:NT}{j k:Nat}{x:Str×Addr×List Nat}(N:wa H0 p t H)(hj:t[j]?=some x) :
  wa H0 p (t.set j (x.1,x.2.1,x.2.2++[k])) (ay H x.2.1 (.lst (x5 (x.2.2++[k]))))/\ku (t.set j (x.1,x.2.1,x.2.2++[k]))=jz (ku t) x.1 k:=by
 have a:=MD hj;have e:ku (t.set j (x.1,x.2.1,x.2.2++[k]))=jz (ku t) x.1 k:=by
  rw[Gz];exact BG (q:=(x.1,x.2.2)) N.nodup (by unfold ku;rw[MC,hj];rfl)
 refine⟨⟨gC N.same (N.fresh x a),N.at_.put hj,λy b=>?_,?_⟩,e⟩
 ·rcases List.mem_or_eq_of_mem_set b with q | q
  ·exact N.fresh y q
  ·rw[q];exact N.fresh x a
 ·rw[e,jq];exact N.nodup
abbrev e_:Stmt:=ij 56
theorem mH:aw ["start","rules","numbers","k","rule","part"] ["start","rules"] (aj e_):=by walk_at "c"
def fL(m:List (Str×List Nat))(i:Nat)(r:Nat×RV):List (Str×List Nat):=((aO r.1 r.2).map tx).foldl cn (jz (cn m (tx r.2.n)) (tx r.2.n) i)
def gJ:Nat->Yaa->List (Str×List Nat)->List (Str×List Nat)
 |_,[],m=>m
 |i,r::rs,m=>gJ (i+1) rs (fL m i r)
theorem mB{m:List (Str×List Nat)}{z:Str}{n:Nat}(h:∀q∈m,q.2.length<=n):∀q∈cn m z,q.2.length<=n:=by
 unfold cn;split
 ·exact h
 ·intro q a
  rcases MM.mp a with z1 | z1
  ·exact h q z1
  ·rw[MB.mp z1];exact MX _
theorem oZ:∀{zs:NF} {m:List (Str×List Nat)} {n:Nat},(∀q∈m,q.2.length<=n)->∀q∈zs.foldl cn m,q.2.length<=n
 | [],_,_,h=>h
 |z::zs,_,_,h=>oZ (zs:=zs) (mB h)
theorem xf{m:List (Str×List Nat)}{i n:Nat}{r:Nat×RV}(h:∀q∈m,q.2.length<=n):∀q∈fL m i r,q.2.length<=n+1:=by
 unfold fL;refine oZ λq b=>?_;unfold jz at b;obtain⟨c,a,rfl⟩:=Ng.mp b;have:=mB h c a
 split
 ·rw[MV];simp;exact this
 ·omega
theorem qi:∀{rs:Yaa} {i n:Nat} {m:List (Str×List Nat)},(∀q∈m,q.2.length<=n)->∀q∈gJ i rs m,q.2.length<=n+rs.length
 | [],_,_,_,h=>h
 |r::rs,i,n,m,h=>λq hq=>by
  have:=qi (rs:=rs) (i:=i+1) (xf (i:=i) (r:=r) h) q hq;rw[MK];omega
theorem h_:∀{rs:Yaa} {i:Nat} {m:List (Str×List Nat)} {r:Nat×RV},gJ i (rs++[r]) m=fL (gJ i rs m) (i+rs.length) r
 | [],i,m,r=>rfl
 |r0::rs,i,m,r=>by
  show gJ (i+1) (rs++[r]) (fL m i r0)=fL (gJ (i+1) rs (fL m i r0)) (i+(rs.length+1)) r;rw[h_,show i+1+rs.length=i+(rs.length+1) by omega]
theorem yh(k:Nat)(v:RV):(aO k v).length<=2:=by
 match k with
 |0=>simp[aO]
 |1=>simp[aO]
 |2=>simp[aO]
 |_+3=>simp[aO]
def bf(z:Str)(rs:Yaa):List (Str×List Nat):=gJ 0 rs [(z,[])]
inductive gM(K:W.Frag)(R:RC)(vs:List V)(H:Hp)(Q:VK)(_E:XK):Prop
 |mk (z:Str) (a:Addr) (as:NA) (rs:Yaa) (_:vs=[.str z,.ref a]) (_:H a=some (.lst (as.map V.ref))) (_:cT R H as rs) (_:rs.length<=100) (_:∀p H' t,H p=none->dy H' p t->ku t=bf z rs->(∀x∈t,H x.2.1=none)->az H H'->Q (.ref p) H')
theorem mq{f:Addr}(F:cF K "numbers_by_name" "numbers_by_name" e_ f fd)(nb:NB mg)(rk:pJ K R)(yaD:↑pO 1 "parts" (n8 K R)):↑aS 2 f fd ["start","rules"] (gM K R):=by
 have sc:=mH;walk_at "f"
 ·obtain⟨z,a,as,rs,rfl,ha,Y,hn,q⟩:=h
  refine⟨_,(af (q01 2 sc.nd (Fz (Da (pv 0) (bK ac) GF) rfl rfl (by simp) nofun))
   (af (bP PassesOwn.never rfl (qa rfl nb.enumerate (aa (pv 1) ac)) (fB (n:=2) rfl (aM (q02 3 sc.nd) (aM (q02 4 sc.nd) cY)))
   (af (bH (q03 (rC (pv 2) (bJ (pv 4) rfl) (bK ac) ⟨rfl,rfl,rfl,rfl⟩) (aa (pv 3) ac)))
   (ai (bP PassesOwn.never rfl (cK (wX yaD (hr.mono nofun) ba (pv 4))) (q02 5 sc.nd)
   (ai (bH (rC (pv 2) (pv 5) (bK ac) ⟨rfl,rfl,rfl,rfl⟩)))))))
   (ai (aF (pv 2))))),?_⟩
  ext;intro p hp;refine⟨MX _,λl hl=>?_⟩;have B:l≠p:=λe=>by rw[e,ad]at hl;exact nomatch hl
  have a1:H l=none:=by rw[ao B]at hl;exact hl
  have a8:a≠p:=λe=>by rw[e,hp]at ha;exact nomatch ha
  have b4:a≠l:=λe=>by rw[e,a1]at ha;exact nomatch ha
  refine⟨by rw[ao (Ne.symm B),ad],[(.inr z,.ref l)],rfl,by simp,as.map V.ref,aW.of (by rw[ao a8,ao b4,ao a8];exact ha),?_⟩;refine kO (xs:=as.map V.ref) (λi σ C=>az H C/\∃t,dy C p t/\(∀x∈t,H x.2.1=none)/\((ku t).map (·.1)).Nodup/\ku t=gJ 0 (rs.take i) [(z,[])]/\t.length<=1+3*i/\∃x y u,σ=[some (.str z),some (.ref a),some (.ref p),x,y,u]) ?_ ?_ ?_ ?_
  ·refine⟨λb o e=>?_,[(z,l,[])],⟨by rw[ad];rfl,λx c=>?_,by simp⟩,λx c=>?_,by simp[ku],rfl,by simp,_,_,_,rfl⟩
   ·have h1:b≠p:=λq=>by rw[q,hp]at e;exact nomatch e
    have h2:b≠l:=λq=>by rw[q,a1]at e;exact nomatch e
    rw[ao h1,ao h2,ao h1];exact e
   ·rw[MB.mp c,ao B,ad];rfl
   ·rw[MB.mp c];exact a1
  ·rintro i σ C _ ⟨sm,_⟩
   exact aW.of (sm _ _ ha)
  ·rintro i x σ H1 T c ⟨sm,t,N,fr,nd,em,hlen,x1,y1,u1,rfl⟩ hT
   have a4:i<rs.length:=by have:=(My.mp c).1;rw[MA,Y.1]at this;exact this
   obtain⟨g,b1,rfl⟩:∃g,as[i]?=some g/\V.ref g=x:=by
    rw[MC]at c;cases e:as[i]? with
    |none=>rw[e]at c;cases c
    |some g=>rw[e]at c;exact⟨g,rfl,q0P c⟩
   have Z:rs[i]?=some rs[i]:=Mx a4;generalize rs[i]=r at Z;have rr:=Y.2 i g r b1 Z;have O:az H (ay H1 T (.tup [V.int (i:Int),V.ref g])):=sm.trans (ae hT);have gT:∀b o,H1 b=some o->ay H1 T (.tup [V.int (i:Int),V.ref g]) b=some o:=ae hT;have eT:aZ K (ay H1 T (.tup [V.int (i:Int),V.ref g])) T [V.int (i:Int),V.ref g]:=aZ.of ad;have N2:=N.grow gT;generalize ay H1 T (.tup [V.int (i:Int),V.ref g])=H2 at O gT eT N2 ⊢;clear gT N hT sm H1;simp only[Ef,AJ,lN,F7];refine⟨_,_,rfl,eT,rfl,_,_,rfl,_,_,rfl,rfl,?_⟩;refine am λN1 h1=>?_;have a3:=rr.up O;have NI:wa H p t H2:=⟨O,N2,fr,nd⟩;have hz:sizeLine>1000:=bq nofun;obtain⟨dx,pl,L,_⟩:=id a3;ext;refine oX (z:=tx r.2.n) hp rfl (λS hS=>⟨_,rfl,g,_,dx,_,_,rfl,L,(rk.icls r.1).cl,(rk.name r.1).1,(iT pl r.2 r.1).1,hS⟩) NI ⋯ λH3 t3 j x N3 hj c hm a6 hk=>?_;have U:=N3.at_.list x (MD hj);refine⟨.inl ⟨rfl,_,aW.of U⟩,_,rfl,_,U,?_,h1 _ _ ?_⟩
   ·have h2:(x.1,x.2.2)∈cn (ku t) (tx r.2.n):=by rw[<- hm];exact Ng.mpr ⟨x,MD hj,rfl⟩
    have h3:=mB (qi (rs:=rs.take i) (i:=0) (n:=0) (m:=[(z,[])]) (λq hq=>by rw[MB.mp hq];exact MX _)) (z:=tx r.2.n) (x.1,x.2.2) (by rw[<- em];exact h2);rw[Nb]at h3;unfold x5;rw[MA];have h4:x.2.2.length<=100:=by simp at h3;omega
    omega
   clear h1;obtain⟨J,D⟩:=N3.put (k:=i) hj;have a5:(t3.set j (x.1,x.2.1,x.2.2++[i])).length<=t.length+1:=by rw[Nl];exact a6
   have D:ku (t3.set j (x.1,x.2.1,x.2.2++[i]))=jz (cn (ku t) (tx r.2.n)) (tx r.2.n) i:=by rw[D,hm,c]
   have eI:x5 (x.2.2++[i])=x5 x.2.2++[V.int (i:Int)]:=by unfold x5;rw[ML];rfl
   rw[eI]at J;generalize t3.set j (x.1,x.2.1,x.2.2++[i])=t4 at J D a5;generalize ay H3 x.2.1 (.lst (x5 x.2.2++[V.int (i:Int)]))=H4 at J ⊢;clear hk U hj N3 hm a6 c NI N2 L a3;have b0:=rr.up J.same;have hpk:=yh r.1 r.2;ext;refine tW rk b0 λlp H5 B a9 a2=>⟨lp,rfl,⟨_,aW.of a9⟩,?_⟩;have b2:lp≠p:=λe=>by rw[e,J.at_.dict]at B;exact nomatch B
   refine dO (xs:=aH (aO r.1 r.2)) (λn σ C=>n<=(aO r.1 r.2).length/\∃M,wa H p M C/\ku M=(((aO r.1 r.2).take n).map tx).foldl cn (jz (cn (ku t) (tx r.2.n)) (tx r.2.n) i)/\M.length<=t.length+1+n/\C lp=some (.lst (aH (aO r.1 r.2)))/\∃u,σ=[some (.str z),some (.ref a),some (.ref p),some (.int (i:Int)),some (.ref g),u])
    ⟨MX _,t4,⟨J.same.trans a2,J.at_.grow a2,J.fresh,J.nodup⟩,D,a5,a9,_,rfl⟩ ?_ ?_ ?_
   ·rintro n σ C _ ⟨_,M,_,_,_,I,_⟩
    exact aW.of I
   ·rintro n v σ C hv ⟨hn1,M,N',G,a7,I,u,rfl⟩
    have a0:n<(aO r.1 r.2).length:=by have:=(My.mp hv).1;rwa [ar]at this
    rw[bp a0]at hv;cases hv;ext;refine oX (z:=tx (aO r.1 r.2)[n]) hp rfl (λS hS=>⟨_,rfl,hS⟩) N' ⋯ λH6 t6 j x N6 hj c b3 hl6 hk=>?_;refine⟨a0,t6,N6,?_,⋯,hk _ _ b2 I⟩;rw[b3,G,q0D,Mx a0,ML,List.foldl_append]
    rfl
   ·rintro σ C ⟨_,M,N',G,a7,I,u,rfl⟩
    rw[ar,Na]at G;refine⟨N'.same,M,N'.at_,N'.fresh,N'.nodup,?_,?_,_,_,_,rfl⟩
    ·rw[G,q0D,Z,em]
     show _=gJ 0 (rs.take i++[r]) _;rw[h_,Nb,Np (q0M a4),Nat.zero_add]
     rfl
    ·rw[ar]at a7;omega
  ·rintro σ C ⟨sm,t,N,fr,_,em,_,x,y,u,rfl⟩
   ext;refine q p C t hp N ?_ fr sm;rw[em,MA,Y.1,Na];rfl
def io(sg st:Nw)(rs:Yaa):Option (Str×List Int):=
 match i_ sg st rs with
 |some y=>some y
 |none=>if 8<(bf (tx st) rs).length then some ("names",[((bf (tx st) rs).length:Int)]) else none
def iC(sg st:Nw)(lk pn:Addr):List (Str×V):=[("signs",.str (tx sg)),("start",.str (tx st)),("kept",.ref lk),("numbers",.ref pn)]
def dB(R:RC)(H:Hp)(C dx a:Addr)(sg st:Nw)(as:NA)(rs:Yaa):Prop:=
 ∃lk pn t,H a=some (.ins C dx (iC sg st lk pn))/\H lk=some (.lst (as.map V.ref))/\cT R H as rs/\dy H pn t/\ku t=bf (tx st) rs
def v7(R:RC)(H:Hp)(C dx a:Addr)(sg st:Nw)(as:NA)(rs:Yaa)(lk pn:Addr)(t:NT):Prop:=
 H a=some (.ins C dx (iC sg st lk pn))/\H lk=some (.lst (as.map V.ref))/\cT R H as rs/\dy H pn t/\ku t=bf (tx st) rs
theorem v7.f{st:Nw}{lk pn:Addr}{t:NT}(g:v7 R H C dx a sg st as rs lk pn t):dB R H C dx a sg st as rs:=⟨lk,pn,t,g⟩
theorem dB.up{st:Nw}(g:dB R H C dx a sg st as rs)(s:az H H'):dB R H' C dx a sg st as rs:=by
 obtain⟨c,b,t,h1,h2,k,j,e⟩:=g;exact⟨c,b,t,s _ _ h1,s _ _ h2,k.up s,j.grow s,e⟩
def Gk(a C:Addr)(H:Hp)(y:Str×List Int)(E:XK):Prop:=∀(t d:Addr) (H':Hp),bY a H H'->H' t=some (.tup (Ih y))->H' d=some (.xd [("why",.ref t)])->E (.ref C) (some d) H'
theorem FG(k:Nat)(l:Addr)(v:RV):xB k l v≠[]:=λe=>by
 have:=(iT l v k).1;rw[e]at this;exact nomatch this
theorem cT.upX(h:cT R H as rs)(ha:H a=some (.ins C dx []))(s:bY a H H'):cT R H' as rs:=by
 refine⟨h.1,λi b r g c=>?_⟩;obtain⟨d,l,h1,h2⟩:=h.2 i b r g c;refine⟨d,l,s _ _ (λe=>?_) h1,s _ _ (λe=>?_) h2⟩
 ·rw[e,ha]at h1
  have:=q0P h1;exact q0N (HO.ins.inj this).2.2.symm (FG _ _ _)
 ·rw[e,ha]at h2;cases h2
abbrev eJ:Stmt:=fu 53 0
inductive ji(K:W.Frag)(R:RC)(CF:Addr)(vs:List V)(H:Hp)(Q:VK)(E:XK):Prop
 |mk (a C dx l:Addr) (sg st:Nw) (as:NA) (rs:Yaa) (_:vs=[.ref a,.str (tx sg),.str (tx st),.ref l]) (_:H a=some (.ins C dx [])) (_:mK K C) (_:(aq K C "signs"/\aq K C "start"/\aq K C "kept"/\aq K C "numbers")) (_:sg.length<=1000) (_:st.length<=1000) (_:H l=some (.lst (as.map V.ref))) (_:cT R H as rs) (_:(∀r∈rs,r.1<4)) (_:rs.length<=100) (_:(io sg st rs=none->∀H' lk pn t,bY a H H'->v7 R H' C dx a sg st as rs lk pn t->H lk=none->H pn=none->(∀x∈t,H x.2.1=none)->Q .non H')) (_:∀y,io sg st rs=some y->Gk a CF H y E)
theorem vy:aw ["self","signs","start","rules"] ["self","signs","start","rules"] (aj eJ):=by walk_at "c"
theorem u_{f zda:Addr}{t1:Tok}(F:cF K "__init__" "Grammar.__init__" eJ f fd)(nb:NB mg)(ybw:mg "MOST_NAMES"=some (.int 8 t1))
  (zua:mg "NoGrammar"=some (.ref zda)) (zna:XI P w K mg base 1 zda "why") (ya8:dU P w K mg base (bG P w) 3 "check_made_of" ["signs","start","rules"] (iP R zda)) (ybj:↑dU 2 "numbers_by_name" ["start","rules"] (gM K R)) :
  aS P w K mg base (bG P w) 4 f fd ["self","signs","start","rules"] (ji K R zda):=by
 have sc:=vy;walk_at "x"
 ·obtain⟨a,C,g,l,b,c,G,O,rfl,_⟩:=h;rfl
 ·obtain⟨a,C,g,l,b,c,G,O,rfl,ha,cl,⟨n1,n2,n3,n4⟩,a8,a7,hl,S,a9,hn,good,bad⟩:=h
  refine⟨_,(af (bH (aJ (E:=E) ya8 (hr.mono nofun) rfl (aY λ_ _ _ h=>h) (aa (al 1) (aa (al 2) (aa (al 3) ac)))))
   (af (dC (al 0) (al 1) rfl)
   (af (dC (al 0) (al 2) rfl)
   (af (dC (al 0) (eG cV rfl nb.list jm (aa (al 3) ac)) rfl)
   (af (dC (al 0) (aJ (CX:=bG P w) ybj.lift (hr.mono nofun) rfl bt (aa (al 2) (aa (al 3) ac))) rfl)
   (ai (bC (aK (bc.m0 jx) (av tL rfl nb.len aV (aa (bJ (al 0) rfl) ac)) (b_ (v:=.int 8) rfl ybw ⟨_,rfl⟩) (aN _))
   (ai (d8 zna (hr.mono nofun) rfl rfl zua (eC λ_ _ _ h=>h) (aa (aG (bh (aa (av tL rfl nb.len aV (aa (bJ (al 0) rfl) ac)) ac))) ac)))
   aL))))))),?_⟩
  symm;refine⟨b,c,l,G,O,rfl,a8,a7,hl,S,a9,hn,λg0 H1 M=>h1 _ _ ?_,λy hy t d H' sm ht hd=>bad y (by unfold io;rw[hy]) t d H' (.of sm) ht hd⟩;clear h1;have a5:=M _ _ ha;have a3:l≠a:=λe=>by rw[e,ha]at hl;cases hl
  ac_nf;refine⟨C,g,_,a5,cl,n1,by simp,h2 _ _ ?_⟩;clear h2;have J:bY a H (ay H1 a (.ins C g [("signs",.str (tx b))])):=(bY.of M).put;have a2:ay H1 a (.ins C g [("signs",.str (tx b))]) a=some (.ins C g [("signs",.str (tx b))]):=ad;show _;change B8 _ _ _ _ (ay H1 a (.ins C g [("signs",.str (tx b))]));generalize ay H1 a (.ins C g [("signs",.str (tx b))])=H2 at J a2 ⊢;clear M a5;refine am λN3 h3=>?_;ext;have d1:¬ (("signs":Str)="start"):=by decide +kernel
  have e3:cU "start" (V.str (tx c)) [(("signs":Str),V.str (tx b))]=[(("signs":Str),V.str (tx b)),(("start":Str),V.str (tx c))]:=by simp only[cU,q06 d1]
  refine⟨C,g,_,a2,cl,n2,by simp,?_⟩;rw[e3];refine h3 _ _ ?_;clear h3;have r:bY a H (ay H2 a (.ins C g [(("signs":Str),V.str (tx b)),(("start":Str),V.str (tx c))])):=J.put;have a1:ay H2 a (.ins C g [(("signs":Str),V.str (tx b)),(("start":Str),V.str (tx c))]) a=some (.ins C g [(("signs":Str),V.str (tx b)),(("start":Str),V.str (tx c))]):=ad;generalize ay H2 a (.ins C g [(("signs":Str),V.str (tx b)),(("start":Str),V.str (tx c))])=H3 at r a1 ⊢;clear J a2;have a4:=r _ _ a3 hl;refine am λN4 h4=>?_;ext;refine⟨_,.inl (aW.of a4),λj m=>?_⟩;have U:j≠a:=λe=>by rw[e,a1]at m;cases m
  have hlk0:j≠l:=λe=>by rw[e,a4]at m;cases m
  have sk:az H3 (ay H3 j (.lst (G.map V.ref))):=ae m;have ek:ay H3 j (.lst (G.map V.ref)) j=some (.lst (G.map V.ref)):=ad;have b4:H j=none:=by
   cases e:H j with
   |none=>rfl
   |some u=>rw[r _ _ U e]at m;cases m
  generalize ay H3 j (.lst (G.map V.ref))=H4 at sk ek ⊢;have d2:¬ (("signs":Str)="kept"):=by decide +kernel
  have d3:¬ (("start":Str)="kept"):=by decide +kernel
  have e4:cU "kept" (V.ref j) [(("signs":Str),V.str (tx b)),(("start":Str),V.str (tx c))]=[(("signs":Str),V.str (tx b)),(("start":Str),V.str (tx c)),(("kept":Str),V.ref j)]:=by simp only[cU,q06 d2,q06 d3]
  refine⟨C,g,_,sk _ _ a1,cl,n3,by simp,?_⟩;rw[e4];refine h4 _ _ ?_;clear h4;have n:bY a H (ay H4 a (.ins C g [(("signs":Str),V.str (tx b)),(("start":Str),V.str (tx c)),(("kept":Str),V.ref j)])):=(r.then sk).put;have D:ay H4 a (.ins C g [(("signs":Str),V.str (tx b)),(("start":Str),V.str (tx c)),(("kept":Str),V.ref j)]) a=some (.ins C g [(("signs":Str),V.str (tx b)),(("start":Str),V.str (tx c)),(("kept":Str),V.ref j)]):=ad;have Y:ay H4 a (.ins C g [(("signs":Str),V.str (tx b)),(("start":Str),V.str (tx c)),(("kept":Str),V.ref j)]) j=some (.lst (G.map V.ref)):=by rw[ao U];exact ek
  generalize ay H4 a (.ins C g [(("signs":Str),V.str (tx b)),(("start":Str),V.str (tx c)),(("kept":Str),V.ref j)])=H5 at n D Y ⊢;refine am λN5 h5=>?_;ext;refine⟨tx c,l,G,O,rfl,n _ _ a3 hl,S.upX ha n,hn,λk H6 t o hN hm b0 L=>?_⟩;have T:k≠a:=λe=>by rw[e,D]at o;cases o
  have hpk:k≠j:=λe=>by rw[e,Y]at o;cases o
  have b3:H k=none:=by
   cases e:H k with
   |none=>rfl
   |some u=>rw[n _ _ T e]at o;cases o
  have b2:∀x∈t,H x.2.1=none:=λx hx=>by
   have B:=b0 x hx;cases e:H x.2.1 with
   |none=>rfl
   |some u=>rw[n _ _ (λz=>by rw[z,D]at B;cases B) e]at B;cases B
  have d4:¬ (("signs":Str)="numbers"):=by decide +kernel
  have d5:¬ (("start":Str)="numbers"):=by decide +kernel
  have d6:¬ (("kept":Str)="numbers"):=by decide +kernel
  have e6:cU "numbers" (V.ref k) [(("signs":Str),V.str (tx b)),(("start":Str),V.str (tx c)),(("kept":Str),V.ref j)]=iC b c j k:=by unfold iC;simp only[cU,q06 d4,q06 d5,q06 d6]
  have a6:=L _ _ D;refine⟨C,g,_,a6,cl,n4,by simp,?_⟩;rw[e6];refine h5 _ _ ?_;clear h5;have q:bY a H (ay H6 a (.ins C g (iC b c j k))):=(n.then L).put;have gf:v7 R (ay H6 a (.ins C g (iC b c j k))) C g a b c G O j k t:=by
   refine⟨ad,by rw[ao U];exact L _ _ Y,S.upX ha q,⟨by rw[ao T];exact hN.dict,λx hx=>?_,hN.apart⟩,hm⟩;have hq:=hN.list x hx;rw[ao (λe=>by rw[e,a6]at hq;cases hq)];exact hq
  have a0:ay H6 a (.ins C g (iC b c j k)) a=some (.ins C g (iC b c j k)):=ad;have Z:ay H6 a (.ins C g (iC b c j k)) k=some (.dK (x4 t)):=by rw[ao T];exact hN.dict
  generalize ay H6 a (.ins C g (iC b c j k))=H7 at q gf a0 Z ⊢;have I:(x4 t).length=(bf (tx c) O).length:=by rw[<- hm];unfold x4 ku;rw[MA,MA]
  ext;refine⟨C,g,_,a0,cl,n4,_,rfl,k,rfl,_,Z,?_⟩;rw[I]
  by_cases h8:8<(bf (tx c) O).length
  ·rw[q07 ⋯]
   refine⟨C,g,_,a0,cl,n4,_,rfl,k,rfl,_,Z,ak ⋯,λp hp=>⟨ak ⋯,λd hd=>?_⟩⟩;rw[I]at hd ⊢;have b1:p≠d:=λx=>by rw[<- x,ad]at hd;cases hd
   refine bad ("names",[((bf (tx c) O).length:Int)]) (by unfold io;rw[g0];simp only[];rw[q07 h8]) p d _ (((q.then (ae hp))).then (ae hd)) (by rw[ao b1,ad];rfl) ad
  ·rw[q06 ⋯]
   exact good (by unfold io;rw[g0];simp only[];rw[q06 h8]) H7 j k t q gf b4 b3 b2
abbrev eQ:Stmt:=fu 53 2
inductive cr(R:RC)(C:Addr)(vs:List V)(H:Hp)(Q:VK)(_E:XK):Prop
 |mk (a dx:Addr) (sg st:Nw) (as:NA) (rs:Yaa) (k:Nat) (b:Addr) (_:vs=[.ref a,.int (k:Int)]) (_:dB R H C dx a sg st as rs) (_:as[k]?=some b) (_:Q (.ref b) H)
theorem uD:aw ["self","k"] ["self","k"] (aj eQ):=by walk_at "c"
theorem uF{f:Addr}(F:cF K "rule" "Grammar.rule" eQ f fd)(nb:NB mg)(cl:mK K C)(na:aq K C "signs"/\aq K C "start"/\aq K C "kept"/\aq K C "numbers"):↑aS 1 f fd ["self","k"] (cr R C):=by
 have sc:=uD;walk_at "f"
 ·obtain⟨a,m,sg,st,as,rs,k,b,rfl,g,j,q⟩:=h
  obtain⟨c,pn,t,l,e,hrs,hN,hm⟩:=id g;have hu:=hr.units;refine⟨_,(ai (aF (aE bg (bJ (al 0) rfl) (al 1) (λ_ _=>rfl)))),?_⟩;ext;exact⟨C,m,_,l,cl,na.2.2.1,_,rfl,c,rfl,_,aW.of e,_,aU (by rw[MC,j];rfl),q⟩
abbrev eN:Stmt:=fu 53 3
inductive i7(R:RC)(C:Addr)(vs:List V)(H:Hp)(Q:VK)(_E:XK):Prop
 |mk (a dx:Addr) (sg st:Nw) (as:NA) (rs:Yaa) (_:vs=[.ref a]) (_:dB R H C dx a sg st as rs) (_:Q (.int (rs.length:Int)) H)
theorem uS:aw ["self"] ["self"] (aj eN):=by walk_at "c"
theorem vk{f:Addr}(F:cF K "many" "Grammar.many" eN f fd)(nb:NB mg)(cl:mK K C)(na:aq K C "signs"/\aq K C "start"/\aq K C "kept"/\aq K C "numbers"):↑aS 1 f fd ["self"] (i7 R C):=by
 have sc:=uS;walk_at "f"
 ·obtain⟨a,k,sg,st,as,rs,rfl,g,q⟩:=h
  obtain⟨c,pn,t,j,e,b,hN,hm⟩:=id g;have hu:=hr.units;refine⟨_,(ai (aF (av bi rfl nb.len aV (aa (bJ (al 0) rfl) ac)))),?_⟩;ext;refine⟨C,k,_,j,cl,na.2.2.1,_,rfl,c,rfl,_,aW.of e,?_⟩;rw[MA,b.1];exact q
theorem tH(z:Str):∀t:NT,(ku t).lookup z=(t.find? λx=>decide (x.1=z)).map (·.2.2)
 | []=>rfl
 |x::t=>by
  have ih:=tH z t;unfold ku at ih ⊢;rw[M5,List.lookup_cons,List.find?_cons]
  by_cases e:x.1=z
  ·simp[e]
  ·have e':(z==x.1)=false:=by simpa using λh=>e h.symm
   rw[e',ih];simp[e]
abbrev b7:Stmt:=fu 53 5
inductive cz(R:RC)(C CN:Addr)(vs:List V)(H:Hp)(Q:VK)(E:XK):Prop
 |mk (a dx:Addr) (sg st:Nw) (as:NA) (rs:Yaa) (z:Str) (_:vs=[.ref a,.str z]) (_:dB R H C dx a sg st as rs) (_:(∀ns,(bf (tx st) rs).lookup z=some ns->∀l H',H l=none->H' l=some (.lst (x5 ns))->az H H'->Q (.ref l) H')) (_:((bf (tx st) rs).lookup z=none->E (.ref CN) none H))
theorem mv:aw ["self","name"] ["self","name"] (aj b7):=by walk_at "c"
theorem mn{f yaa:Addr}(F:cF K "numbers_of" "Grammar.numbers_of" b7 f fd)(nb:NB mg)(cl:mK K C)(na:aq K C "signs"/\aq K C "start"/\aq K C "kept"/\aq K C "numbers")(yau:mg "NoName"=some (.ref yaa))(ybn:XR K yaa):aS P w K mg base (bG P w) 1 f fd ["self","name"] (cz R C yaa):=by
 have sc:=mv;walk_at "x"
 ·obtain⟨a,j,r,p,D,u,z,rfl,_⟩:=h;rfl
 ·obtain⟨a,j,r,p,D,u,z,rfl,g,q,x⟩:=h
  obtain⟨lk,k,t,o,hk,hrs,e,B⟩:=id g;have m:=hr.units;refine⟨_,(af (bC (D7 (tz (Nd (Ni (by decide:1<=64) _) m) (al 1) (bJ (al 0) rfl)) (by with_unfolding_all rfl))
   (ai (dF ybn rfl rfl yau (fb λ_ _ _ h=>h) (bh ac)))
   aL)
   (ai (aF (eG cV rfl nb.list jm (aa (va (Nd (Ni (by decide:1<=64) _) m) (bJ (al 0) rfl) (al 1) (λ_ _=>rfl)) ac))))),?_⟩
  ext;have b:=tH z t;have val:=yS z t;rw[B]at b;refine⟨C,j,_,o,cl,na.2.2.2,_,rfl,k,rfl,?_⟩;refine⟨_,.inl ⟨_,.inr z,.inl e.dict,rfl,rfl⟩,?_⟩;cases c:t.find? (λx=>decide (x.1=z)) with
  |none=>
   rw[c]at b val;rw[val];rw[q07 (by simp)];exact⟨ak ⋯,x b⟩
  |some y=>
   rw[c]at b val;rw[val];rw[q06 (by simp)];have v:=e.list y (List.mem_of_find?_eq_some c);exact⟨C,j,_,o,cl,na.2.2.2,_,rfl,k,rfl,_,.inl ⟨_,.inr z,.inl e.dict,rfl,val.symm⟩,_,rfl,_,.inl (aW.of v),λl n=>q _ b l _ n ad (ae n)⟩
abbrev u7:Stmt:=ij 14
inductive kl(K:W.Frag)(CF:Addr)(vs:List V)(H:Hp)(Q:VK)(E:XK):Prop
 |mk (a b:Addr) (p q:bN) (r c r' c':Nat) (_:vs=[.ref a,.ref b]) (_:H a=some (.lst (aH p))) (_:H b=some (.lst (aH q))) (_:fE p r c) (_:fE q r' c') (_:0<r) (_:r<=6) (_:c<=6) (_:0<r') (_:r'<=6) (_:c'<=6) (_:(c=c'/\r+r'<=6->c8 H (p++q) Q)) (_:(¬ (c=c'/\r+r'<=6)->E (.ref CF) none H))
theorem Fa:aw ["one","other"] ["one","other"] (aj u7):=by walk_at "c"
theorem DV{f zia:Addr}{tk:Tok}(F:cF K "above" "above" u7 f fd)(nb:NB mg)(yai:mg "MOST"=some (.int 6 tk))(zAb:mg "NoFit"=some (.ref zia))(zpb:XR K zia):aS P w K mg base (bG P w) 1 f fd ["one","other"] (kl K zia):=by
 have sc:=Fa;walk_at "x"
 ·obtain⟨a,b,p,q,r,c,D,I,rfl,_⟩:=h;rfl
 ·obtain⟨a,b,p,q,r,c,D,I,rfl,B,y,o,n,m,hr1,hc1,g,hr1',hc1',C,e⟩:=h
  refine⟨_,(af (bC (PW.pt (iO (aK wK (av bb rfl nb.len aV (aa (aE bg (al 0) ah (λ_ _=>rfl)) ac)) (av bb rfl nb.len aV (aa (aE bg (al 1) ah (λ_ _=>rfl)) ac)) (aN _)) (fH (aK (bc.m0 jx) (au (bc.m0 bF) (av bi rfl nb.len aV (aa (al 0) ac)) (av bi rfl nb.len aV (aa (al 1) ac))) (b_ (v:=.int 6) rfl yai ⟨_,rfl⟩) (aN _)))))
   (ai (dF zpb rfl rfl zAb (fb λ_ _ _ h=>h) (bh ac)))
   aL)
   (ai (aF (au yz (al 0) (al 1))))),?_⟩
  ext;obtain⟨u,x⟩:=fR o m;obtain⟨j,k⟩:=fR n g;refine⟨_,aW.of B,_,aU (bp u),_,rfl,by rw[aA];exact ak ⋯,_,aW.of y,_,aU (bp j),_,rfl,by rw[aA];exact ak ⋯,?_⟩;rw[aA,aA,x,k]
  by_cases h1:(c:Int)=(I:Int)
  ·rw[q06 (λh=>h h1)]
   refine⟨_,aW.of B,_,aW.of y,?_⟩;rw[ar,ar,o.1,n.1]
   by_cases h2:6<(r:Int)+(D:Int)
   ·rw[q07 h2]
    exact⟨ak ⋯,e ⋯⟩
   ·rw[q06 h2]
    refine⟨_,B,_,y,by rw[ar,ar,o.1,n.1];exact ak ⋯,λl G=>?_⟩;refine C ⟨⋯,⋯⟩ l _ G ?_ (ae G);rw[ad];unfold aH;rw[ML]
  ·rw[q07 h1]
   exact⟨ak ⋯,e ⋯⟩
abbrev rN:Stmt:=ij 13
def put2(p q:bN):bN:=(p.zip q).map λx=>x.1++x.2
inductive iK(K:W.Frag)(CF:Addr)(vs:List V)(H:Hp)(Q:VK)(E:XK):Prop
 |mk (a b:Addr) (p q:bN) (r c r' c':Nat) (_:vs=[.ref a,.ref b]) (_:H a=some (.lst (aH p))) (_:H b=some (.lst (aH q))) (_:fE p r c) (_:fE q r' c') (_:0<r) (_:r<=6) (_:c<=6) (_:0<r') (_:r'<=6) (_:c'<=6) (_:(r=r'/\c+c'<=6->c8 H (put2 p q) Q)) (_:(¬ (r=r'/\c+c'<=6)->E (.ref CF) none H))
theorem Cw:aw ["one","other"] ["one","other"] (aj rN):=by walk_at "c"
theorem CH{f zia:Addr}{tk:Tok}(F:cF K "beside" "beside" rN f fd)(nb:NB mg)(yai:mg "MOST"=some (.int 6 tk))(zAb:mg "NoFit"=some (.ref zia))(zpb:XR K zia):aS P w K mg base (bG P w) 1 f fd ["one","other"] (iK K zia):=by
 have sc:=Cw;walk_at "x"
 ·obtain⟨a,b,p,q,r,c,r',c',rfl,_⟩:=h;rfl
 ·obtain⟨a,b,p,q,r,c,r',c',rfl,R,O,L,J,U,hr1,hc1,C,hr1',hc1',a0,o⟩:=h
  refine⟨_,(af (bC (PW.pt (iO (aK wK (av bi rfl nb.len aV (aa (al 0) ac)) (av bi rfl nb.len aV (aa (al 1) ac)) (aN _)) (fH (aK (bc.m0 jx) (au (bc.m0 bF) (av bb rfl nb.len aV (aa (aE bg (al 0) ah (λ_ _=>rfl)) ac)) (av bb rfl nb.len aV (aa (aE bg (al 1) ah (λ_ _=>rfl)) ac))) (b_ (v:=.int 6) rfl yai ⟨_,rfl⟩) (aN _)))))
   (ai (dF zpb rfl rfl zAb (fb λ_ _ _ h=>h) (bh ac)))
   aL)
   (ai (aF (cH ["first","second"] [] rfl (bE.of (by kernel_rfl)) (by kernel_rfl) (D2 rfl nb.zip (aa (al 0) (aa (al 1) ac)))
    (λ_ _ _ _=>(vA (K:=K) (n:=2) rfl rfl (aM (aB (i:=0) (by show(["first","second"]:List Str).Nodup;decide +kernel) rfl (Or.inl rfl)) (aM (aB (i:=1) (by show(["first","second"]:List Str).Nodup;decide +kernel) rfl (Or.inl rfl)) cY)))) (λ_ _ _ _=>ce) (λ_ _ _ _=>(au je (al 0) (al 1))))))),?_⟩
  ext;obtain⟨Y,Z⟩:=fR L U;obtain⟨G,I⟩:=fR J C;refine⟨_,aW.of R,_,aW.of O,?_⟩;rw[ar,ar,L.1,J.1]
  by_cases h1:(r:Int)=(r':Int)
  ·rw[q06 (λh=>h h1)]
   refine⟨_,aW.of R,_,aU (bp Y),_,rfl,by rw[aA];exact ak ⋯,_,aW.of O,_,aU (bp G),_,rfl,by rw[aA];exact ak ⋯,?_⟩;rw[aA,aA,Z,I]
   by_cases h2:6<(c:Int)+(c':Int)
   ·rw[q07 h2]
    exact⟨ak ⋯,o ⋯⟩
   ·rw[q06 h2]
    refine⟨_,aW.of R,_,aW.of O,?_⟩;have B:p.length=r:=L.1;have u:q.length=r:=by rw[J.1];omega
    have D:(put2 p q).length=r:=by unfold put2;rw[MA,q0K,B,u,Nat.min_self]
    refine xZ (xs:=aH p) (ys:=aH q) (n:=r) (by rw[ar,ar,B,u,Nat.min_self]) (λi g σ m=>az H m/\g=aH ((put2 p q).take i)/\i<=r/\∃y z,σ=[y,z]) ⟨λ_ _ e=>e,rfl,MX _,_,_,rfl⟩ ?_ ?_ ?_ ?_ ?_
    ·rintro i g σ m ⟨_,rfl,M,_⟩
     rw[ar,Nb];exact bq ⋯
    ·rintro i g σ m ⟨_,_,h,_⟩
     exact h
    ·rintro i g σ m ⟨j,_⟩
     exact⟨aW.of (j _ _ R),aW.of (j _ _ O)⟩
    ·rintro i x y g σ m T S hy ⟨j,rfl,_,y1,z1,rfl⟩ hT
     have M:i<p.length:=by have:=(My.mp S).1;rwa [ar]at this
     have k:i<q.length:=by omega
     rw[bp M]at S;rw[bp k]at hy;cases S;cases hy;have hrow:=L.2 _ (MH M);have yd2:=J.2 _ (MH k);ext;refine⟨_,aZ.of ad,rfl,_,_,rfl,_,_,rfl,rfl,?_⟩;have e:(put2 p q)[i]?=some (p[i]++q[i]):=by
      unfold put2;simp[List.getElem?_zip_eq_some,M,k];exact⟨_,_,⟨rfl,rfl⟩,rfl⟩
     have et:tx p[i]++tx q[i]=tx (p[i]++q[i]):=by
      show(⟨_++_⟩:Str)=⟨_⟩;simp[tx]
     refine⟨_,rfl,_,rfl,by rw[aA,aA];exact ak ⋯,j.trans (ae hT),?_,⋯⟩;rw[et,q0D,e];exact(fg _ _).symm
    ·rintro g σ m ⟨j,rfl,_⟩ l hl
     refine a0 ⟨⋯,⋯⟩ l _ (j.free hl) ?_ (j.trans (ae hl));rw[ad,<- D,Na]
  ·rw[q07 h1]
   exact⟨ak ⋯,o ⋯⟩
abbrev r9:Stmt:=ij 17
inductive ul(K:W.Frag)(vs:List V)(H:Hp)(Q:VK)(_E:XK):Prop
 |mk (a:Addr) (p:bN) (_:vs=[.ref a]) (_:aW K H a (aH p)) (_:tQ p) (_:c8 H (mirror p) Q)
theorem Cn:aw ["picture"] ["picture"] (aj r9):=by walk_at "c"
theorem Bj{f:Addr}(F:cF K "mirror" "mirror" r9 f fd)(nb:NB mg):↑aS 1 f fd ["picture"] (ul K):=by
 have sc:=Cn;walk_at "f"
 ·obtain⟨a,p,rfl,k,j,q⟩:=h
  refine⟨_,(ai (aF (cH ["row"] [] rfl (bE.of (by kernel_rfl)) (by kernel_rfl) (cK (al 0))
    (λ_ _ _ _=>(aB (i:=0) (by show(["row"]:List Str).Nodup;decide +kernel) rfl (Or.inl rfl))) (λ_ _ _ _=>ce) (λ_ _ _ _=>(qZ rfl rfl nb.reversed (aa (al 0) ac)))))),?_⟩
  ext;refine⟨⟨_,k⟩,nO (xs:=aH p) (λi b σ e=>e=H/\b=aH (mirror (p.take i))/\i<=p.length/\∃x,σ=[x]) ⟨rfl,rfl,MX _,_,rfl⟩ ?_ ?_ ?_ ?_ ?_⟩
  ·rintro i b σ e ⟨_,rfl,_⟩
   refine bq ?_;rw[ar];unfold mirror;rw[MA,Nb];have:=j.1;omega
  ·rintro i b σ e ⟨_,_,h,_⟩
   rw[ar];exact h
  ·rintro i b σ e ⟨rfl,_⟩
   exact k
  ·rintro i x b σ e g ⟨rfl,rfl,hi,y,rfl⟩
   have c:i<p.length:=by have:=(My.mp g).1;rwa [ar]at this
   rw[bp c]at g;cases g;have hr:=j.2 _ (MH c);ext;refine⟨by rw[aA];omega,nofun,?_,c⟩;rw[g9,gy,q0D,Mx c];unfold mirror;rw[ML];exact(fg _ _).symm
  ·rintro b σ e ⟨rfl,rfl,_⟩ l c
   rw[ar,Na];exact q l _ c ad (ae c)
abbrev dQ:Stmt:=ij 19
inductive ut(K:W.Frag)(vs:List V)(H:Hp)(Q:VK)(_E:XK):Prop
 |mk (a:Addr) (p:bN) (i:Nat) (_:vs=[.ref a,.int (i:Int)]) (_:aW K H a (aH p)) (_:tQ p) (_:(∀r∈p,i<r.length)) (_:∀H',az H H'->Q (.str (tx (col p i))) H')
theorem CV:aw ["picture","i"] ["picture","i"] (aj dQ):=by walk_at "c"
theorem CU{f:Addr}(F:cF K "column_from_below" "column_from_below" dQ f fd)(nb:NB mg):↑aS 1 f fd ["picture","i"] (ut K):=by
 have sc:=CV;walk_at "f"
 ·obtain⟨a,p,i,rfl,B,o,C,q⟩:=h
  refine⟨_,(ai (aF (@AK _ _ _ _ _ _ _ _ (aa (cH ["row"] [1] rfl (bE.of (by kernel_rfl)) (by kernel_rfl) (yd rfl nb.reversed (aa (al 0) ac))
    (λ_ _ _ _=>(aB (i:=0) (by show(["row","i"]:List Str).Nodup;decide +kernel) rfl (Or.inl rfl))) (λ_ _ _ _=>ce) (λ_ _ _ _=>(aE oh (al 0) (al 1) (λ_ _=>rfl)))) ac) rfl rfl))),?_⟩
  ext;have hd:∀n,((p.reverse.take n).map λr=>V.str ⟨#[r.getD i 0]⟩)=(((p.reverse.take n).map λr=>r.getD i 0).map λc=>(⟨#[c]⟩:Str)).map V.str:=λn=>by rw[MN,MN];rfl
  refine⟨rfl,_,B,xY (xs:=aH p) (λn b σ j=>j=H/\b=((p.reverse.take n).map λr=>V.str ⟨#[r.getD i 0]⟩)/\n<=p.length/\∃x,σ=[x,some (.int (i:Int))]) ⟨rfl,rfl,MX _,_,rfl⟩ ?_ ?_ ?_ ?_ ?_⟩
  ·rintro n b σ j ⟨_,rfl,_⟩
   refine bq ?_;rw[MA,Nb];have:=o.1;rw[MQ];omega
  ·rintro n b σ j ⟨_,_,h,_⟩
   rw[ar];exact h
  ·rintro n b σ j ⟨rfl,_⟩
   exact B
  ·rintro n x b σ j u ⟨rfl,rfl,hn,y,rfl⟩
   have g:n<p.reverse.length:=by
    have:=(My.mp u).1
    rwa [MQ,ar,<- MQ (as:=p)]at this
   have k:(aH p.reverse)[n]?=some x:=by unfold aH at u ⊢;rwa [List.map_reverse]
   rw[bp g]at k;cases k;have v:p.reverse[n]∈p:=List.mem_reverse.mp (MH g);have hr:=o.2 _ v;have m:=C _ v;ext;have D:(tx p.reverse[n]).cps.toList[i]?=some (p.reverse[n].getD i 0):=by rw[g9,q0A,Mx m];rfl
   refine⟨by rw[aA];exact ak ⋯,_,aU D,?_,by rw[MQ]at g;exact g⟩;rw[q0D,Mx g,ML]
   rfl
  ·rintro b σ j ⟨rfl,rfl,_⟩ l g
   rw[ar,<- MQ (as:=p),Na]at *;refine⟨(col p i).map λc=>(⟨#[c]⟩:Str),.inl (aW.of ?_),?_,?_⟩
   ·rw[ad];unfold col;rw[MN,MN];rfl
   ·rw[MN]
    have e:((λy:Str=>y.length)∘λc=>(⟨#[c]⟩:Str))=λ_=>1:=by funext c;rfl
    rw[e,List.map_const',List.sum_replicate_nat,MA];have G:(Str.ofString "").length=0:=rfl;rw[G];have:=o.1;unfold col;rw[MA,MQ];omega
   ·rw[gy];exact q _ (ae g)
abbrev nW:Stmt:=ij 18
inductive iW(K:W.Frag)(vs:List V)(H:Hp)(Q:VK)(_E:XK):Prop
 |mk (a:Addr) (p:bN) (r c:Nat) (_:vs=[.ref a]) (_:aW K H a (aH p)) (_:fE p r c) (_:0<r) (_:r<=64) (_:c<=64) (_:c8 H (gj p) Q)
theorem yB:aw ["picture"] ["picture"] (aj nW):=by walk_at "c"
theorem zS{f:Addr}(F:cF K "quarter" "quarter" nW f fd)(nb:NB mg)(ybt:↑dU 1 "column_from_below" ["picture","i"] (ut K)):↑aS 2 f fd ["picture"] (iW K):=by
 have sc:=yB;walk_at "f"
 ·obtain⟨a,p,r,c,rfl,G,j,g,u,v,q⟩:=h
  refine⟨_,(ai (aF (cH ["i"] [0] rfl (bE.of (by kernel_rfl)) (by kernel_rfl) (eS rfl nb.range (aa (av bb rfl nb.len aV (aa (aE bg (al 0) ah (λ_ _=>rfl)) ac)) ac))
    (λ_ _ _ _=>(aB (i:=0) (by show(["i","picture"]:List Str).Nodup;decide +kernel) rfl (Or.inl rfl))) (λ_ _ _ _=>ce) (λ_ _ _ _=>(aJ ybt (hr.mono nofun) rfl ba (aa (al 1) (aa (al 0) ac))))))),?_⟩
  ext;have k:0<p.length:=by rw[j.1];exact g
  have B:(p[0]).length=c:=j.2 _ (MH k);have J:(p.headD []).length=c:=bT j g;refine⟨_,G,_,aU (bp k),_,rfl,by rw[aA];exact ak ⋯,by rw[aA];omega,by rw[aA];omega,?_⟩;rw[aA,B,MI];refine fD (lo:=0) (n:=c) (λi b σ m=>az H m/\b=aH ((List.range i).map (col p))/\i<=c/\∃x,σ=[x,some (.ref a)]) ⟨az.refl _,rfl,MX _,_,rfl⟩ ?_ ?_ ?_ ?_
  ·rintro i b σ m ⟨_,rfl,_⟩
   refine bq ?_;rw[ar,MA,q0G];omega
  ·rintro i b σ m ⟨_,_,h,_⟩
   exact h
  ·rintro i b σ m D ⟨e,rfl,_,y,rfl⟩
   ext;refine⟨a,p,i,by simp,e.seq G,tQ.of j u v,λx I=>by rw[j.2 x I];exact D,λH2 o=>⟨e.trans o,?_,D⟩⟩;rw[q0J,ML];exact(fg _ _).symm
  ·rintro b σ m ⟨e,rfl,_⟩ l C
   refine q l _ (e.free C) ?_ (e.trans (ae C));rw[ad];unfold gj;rw[J]
abbrev rJ:Stmt:=ij 16
inductive oz(K:W.Frag)(vs:List V)(H:Hp)(Q:VK)(_E:XK):Prop
 |mk (a:Addr) (p:bN) (r c t:Nat) (_:vs=[.ref a,.int (t:Int)]) (_:aW K H a (aH p)) (_:fE p r c) (_:0<r) (_:0<c) (_:r<=64) (_:c<=64) (_:t<8) (_:c8 H (turned p t) Q)
theorem BY:aw ["picture","t","result","step"] ["picture","t"] (aj rJ):=by walk_at "c"
theorem BT{f:Addr}(F:cF K "turned" "turned" rJ f fd)(nb:NB mg)(ybr:↑dU 1 "mirror" ["picture"] (ul K))(ybg:↑dU 2 "quarter" ["picture"] (iW K)):↑aS 3 f fd ["picture","t"] (oz K):=by
 have sc:=BY;walk_at "f"
 ·obtain⟨a,p,r,c,t,rfl,hS,hp,hr0,hc0,hr1,hc1,ht,q⟩:=h
  refine⟨_,(af (q01 2 sc.nd (eG cV rfl nb.list jm (aa (pv 0) ac)))
   (af (bC (aK GM (pv 1) ah (aN _))
   (ai (q01 2 sc.nd (aJ ybr (hr.mono nofun) rfl ba (aa (pv 2) ac))))
   aL)
   (af (bP PassesOwn.never rfl (eS rfl nb.range (aa (au br (pv 1) ah) ac)) (q02 3 sc.nd)
   (ai (q01 2 sc.nd (aJ ybg (hr.mono nofun) rfl ba (aa (pv 2) ac)))))
   (ai (aF (pv 2)))))),?_⟩
  ext
  -- the bD,from the list at l
  have loop:∀(l:Addr) (p':bN) (H1:Hp),H l=none->H1 l=some (.lst (aH p'))->az H H1->fE p' r c->turned p t=bD (t%4) p' ->
    ∀(g:TG) (tb:TS) (D:iJ),g=lN 3->tb=AZ (pw (iW K) [] E0 (qJ (Cu 2) uX)) (lN 2)->(∀σ' H' v,σ'[2]?=some (some v)->Q v H'->D.nx σ' H')->vW (CY 0 ((t:Int)%4).toNat) g tb D [some (V.ref a),some (V.int t),some (V.ref l),none] H1:=by
   intro l p' H1 hl h1 sm hp' et g tb D hg htb hD;subst hg htb;have e4:((t:Int)%4).toNat=t%4:=by omega
   rw[e4];refine gF (λi σ H2=>∃(l2:Addr) (x:Option V),σ=[some (V.ref a),some (V.int t),some (V.ref l2),x]/\H l2=none/\H2 l2=some (.lst (aH (bD i p')))/\az H H2) ⟨l,none,rfl,hl,h1,sm⟩ ?_ ?_
   ·rintro i σ H2 hi ⟨l2,x,rfl,h2,h3,sm2⟩
    ext;have hq:=dl i hp' hr0 hc0;have gp:∀r' c',fE (bD i p') r' c'->0<r'->r'<=64->c'<=64->iW K [V.ref l2] H2 (λx_1 H1=>∃l2,x_1=V.ref l2/\H l2=none/\H1 l2=some (HO.lst (aH (bD (i+1) p')))/\az H H1) E0:=λr' c' h4 h5 h6 h7=>
     ⟨l2,bD i p',r',c',rfl,aW.of h3,h4,h5,h6,h7,λl3 H3 h8 h9 sm3=>⟨l3,rfl,sm2.free h8,by rw[h9,<- ng 1 i p'];rfl,sm2.trans sm3⟩⟩
    by_cases hi2:i%2=0
    ·rw[q07 hi2,q07 hi2]at hq
     exact gp r c hq hr0 hr1 hc1
    ·rw[q06 hi2,q06 hi2]at hq
     exact gp c r hq hc0 hc1 hr1
   ·rintro σ H2 ⟨l2,x,rfl,h2,h3,sm2⟩
    exact hD _ _ _ rfl (q l2 H2 h2 (by rw[h3,et]) sm2)
  refine⟨_,.inl hS,λl hl=>?_⟩
  split
  ·rename_i h4
   refine⟨l,p,rfl,aW.of ad,tQ.of hp hr1 hc1,λl2 H2 h2 h3 sm2=>⟨⋯,⋯,?_⟩⟩;refine loop l2 (mirror p) H2 ((ae hl).free h2) h3 ((ae hl).trans sm2) (hJ hp) (by unfold turned;rw[q07 ⋯]) _ _ _ rfl rfl ?_;intro σ' H' v e hq;exact⟨v,e,hq⟩
  ·rename_i h4
   refine⟨⋯,⋯,?_⟩;refine loop l p _ hl ad (ae hl) hp (by unfold turned;rw[q06 ⋯]) _ _ _ rfl rfl ?_;intro σ' H' v e hq;exact⟨v,e,hq⟩
abbrev eX:Stmt:=fu 28 1
inductive jo(C:Addr)(vs:List V)(H:Hp)(Q:VK)(_E:XK):Prop
 |mk (a dx l b:Addr) (n sg:Nw) (c:Int) (_:vs=[.ref a,.ref b]) (_:H a=some (.ins C dx (GK n c l sg))) (_:c8 H [sg] Q)
theorem uI:aw ["self","pictures"] ["self","pictures"] (aj eX):=by walk_at "c"
theorem vj{f:Addr}(F:cF K "made" "CellRule.made" eX f fd)(cl:mK K C)(na:aq K C "sign"):↑aS 1 f fd ["self","pictures"] (jo C):=by
 have sc:=uI;walk_at "f"
 ·obtain⟨a,j,l,b,n,sg,c,rfl,g,q⟩:=h
  refine⟨_,(ai (aF (bK (aa (bJ (al 0) rfl) ac)))),?_⟩;ext;exact⟨C,j,_,g,cl,na,_,rfl,ak nofun,λp e=>q p _ e ad (ae e)⟩
inductive dE(spf:Sp)(vs:List V)(H:Hp)(Q:VK)(E:XK):Prop
 |mk (a b a1 a2:Addr) (_:vs=[.ref a,.ref b]) (_:H b=some (.lst [.ref a1,.ref a2])) (_:spf [.ref a1,.ref a2] H Q E)
abbrev dm:Stmt:=fu 29 1
theorem qz:aw ["self","pictures"] ["self","pictures"] (aj dm):=by walk_at "c"
theorem rZ{f zia:Addr}(F:cF K "made" "BesideRule.made" dm f fd)(ybf:dU P w K mg base (bG P w) 1 "beside" ["one","other"] (iK K zia)):aS P w K mg base (bG P w) 2 f fd ["self","pictures"] (dE (iK K zia)):=by
 have sc:=qz;walk_at "x"
 ·obtain⟨a,b,g,e,rfl,_⟩:=h;rfl
 ·obtain⟨a,b,g,e,rfl,c,q⟩:=h
  refine⟨_,(ai (aF (aJ (E:=E) ybf (hr.mono nofun) rfl (aY λ_ _ _ h=>h) (aa (aE bg (al 1) ah (λ_ _=>rfl)) (aa (aE bg (al 1) ah (λ_ _=>rfl)) ac))))),?_⟩;ext;exact⟨_,aW.of c,_,rfl,_,aW.of c,_,rfl,q⟩
abbrev dJ:Stmt:=fu 30 1
theorem sF:aw ["self","pictures"] ["self","pictures"] (aj dJ):=by walk_at "c"
theorem sI{f zia:Addr}(F:cF K "made" "AboveRule.made" dJ f fd)(ybv:dU P w K mg base (bG P w) 1 "above" ["one","other"] (kl K zia)):aS P w K mg base (bG P w) 2 f fd ["self","pictures"] (dE (kl K zia)):=by
 have sc:=sF;walk_at "x"
 ·obtain⟨a,b,g,e,rfl,_⟩:=h;rfl
 ·obtain⟨a,b,g,e,rfl,c,q⟩:=h
  refine⟨_,(ai (aF (aJ (E:=E) ybv (hr.mono nofun) rfl (aY λ_ _ _ h=>h) (aa (aE bg (al 1) ah (λ_ _=>rfl)) (aa (aE bg (al 1) ah (λ_ _=>rfl)) ac))))),?_⟩;ext;exact⟨_,aW.of c,_,rfl,_,aW.of c,_,rfl,q⟩
inductive jh(K:W.Frag)(C:Addr)(vs:List V)(H:Hp)(Q:VK)(E:XK):Prop
 |mk (a dx l b a1:Addr) (n o1:Nw) (c t:Int) (_:vs=[.ref a,.ref b]) (_:H a=some (.ins C dx (GT n c l o1 t))) (_:H b=some (.lst [.ref a1])) (_:oz K [.ref a1,.int t] H Q E0)
abbrev eV:Stmt:=fu 31 1
theorem wl:aw ["self","pictures"] ["self","pictures"] (aj eV):=by walk_at "c"
theorem uG{f:Addr}(F:cF K "made" "TurnRule.made" eV f fd)(cl:mK K C)(na:aq K C "turning")(zEe:↑dU 3 "turned" ["picture","t"] (oz K)):↑aS 4 f fd ["self","pictures"] (jh K C):=by
 have sc:=wl;walk_at "f"
 ·obtain⟨a,j,l,b,a1,n,o1,c,t,rfl,g,e,q⟩:=h
  refine⟨_,(ai (aF (aJ zEe (hr.mono nofun) rfl ba (aa (aE bg (al 1) ah (λ_ _=>rfl)) (aa (bJ (al 0) rfl) ac))))),?_⟩;ext;exact⟨_,aW.of e,_,rfl,C,j,_,g,cl,na,_,rfl,q⟩
structure fV(p:bN)(r c:Nat):Prop where
 rc:fE p r c
 r0:0<r
 r6:r<=6
 c0:0<c
 c6:c<=6
inductive Cm:Nat->List bN->Prop
 |cell:Cm 0 []
 |beside {p q:bN} {r c r' c':Nat}:fV p r c->fV q r' c'->Cm 1 [p,q]
 |above {p q:bN} {r c r' c':Nat}:fV p r c->fV q r' c'->Cm 2 [p,q]
 |turn {p:bN} {r c:Nat}:fV p r c->Cm 3 [p]
def Fd(H:Hp)(l:Addr)(as:NA)(ps:List bN):Prop:=H l=some (.lst (as.map V.ref))/\as.length=ps.length/\∀i (h1:i<as.length) (h2:i<ps.length),H as[i]=some (.lst (aH ps[i]))
def iH(k:Nat)(v:RV)(ps:List bN):Option bN:=
 match k,ps with
 |0,_=>some [v.sg]
 |1,[p,q]=>if p.length=q.length/\(p.headD []).length+(q.headD []).length<=6 then some (put2 p q) else none
 |2,[p,q]=>if(p.headD []).length=(q.headD []).length/\p.length+q.length<=6 then some (p++q) else none
 |_,[p]=>some (turned p v.t.toNat)
 |_,_=>none
def qB(K:W.Frag)(R:RC)(CF:Addr):List (Addr×Sp):=[(R.cc,jo R.cc),(R.cb,dE (iK K CF)),(R.ca,dE (kl K CF)),(R.ct,jh K R.ct)]
theorem Du{R:RC}{CF:Addr}{k a b}{v:RV}{as:NA}{ps:List bN}{Q:VK}{E:XK}(r:jt R H k a v)(ok:J3 k v)(pa:Fd H b as ps)(ft:Cm k ps)
  (q:∀p,iH k v ps=some p->c8 H p Q) (x:iH k v ps=none->E (.ref CF) none H) :
  ∃o∈qB K R CF,∃dx fs,H a=some (.ins o.1 dx fs)/\fs.lookup ("made":Str)=none/\o.2 [.ref a,.ref b] H Q E:=by
 obtain⟨dx,l,h1,_⟩:=r;obtain⟨I,G,y⟩:=pa;cases ft with
 |cell=>exact⟨(R.cc,jo R.cc),by simp[qB],dx,_,h1,rfl,a,dx,l,b,v.n,v.sg,v.c,rfl,h1,q _ rfl⟩
 | @beside p q' r c r' c' hp hq=>
  obtain⟨e,g,rfl⟩:∃e g,as=[e,g]:=by match as,G with | [e,g],_=>exact⟨e,g,rfl⟩
  have D:=y 0 (by simp) (by simp);have J:=y 1 (by simp) (by simp);have w:=bT hp.rc hp.r0;have u:=bT hq.rc hq.r0;have m:=hp.rc.1;have j:=hq.rc.1;refine⟨(R.cb,dE (iK K CF)),by simp[qB],dx,_,h1,rfl,a,b,e,g,rfl,I,e,g,p,q',r,c,r',c',rfl,D,J,hp.rc,hq.rc,hp.r0,hp.r6,hp.c6,hq.r0,hq.r6,hq.c6,λC=>q _ ?_,λB=>x ?_⟩
  ·show(if _ then _ else _)=_
   rw[q07 (by rw[m,j,w,u];exact C)]
  ·show(if _ then _ else _)=_
   rw[q06 (by rw[m,j,w,u];exact B)]
 | @above p q' r c r' c' hp hq=>
  obtain⟨e,g,rfl⟩:∃e g,as=[e,g]:=by match as,G with | [e,g],_=>exact⟨e,g,rfl⟩
  have D:=y 0 (by simp) (by simp);have J:=y 1 (by simp) (by simp);have w:=bT hp.rc hp.r0;have u:=bT hq.rc hq.r0;have m:=hp.rc.1;have j:=hq.rc.1;refine⟨(R.ca,dE (kl K CF)),by simp[qB],dx,_,h1,rfl,a,b,e,g,rfl,I,e,g,p,q',r,c,r',c',rfl,D,J,hp.rc,hq.rc,hp.r0,hp.r6,hp.c6,hq.r0,hq.r6,hq.c6,λC=>q _ ?_,λB=>x ?_⟩
  ·show(if _ then _ else _)=_
   rw[q07 (by rw[m,j,w,u];exact C)]
  ·show(if _ then _ else _)=_
   rw[q06 (by rw[m,j,w,u];exact B)]
 | @turn p r c hp=>
  obtain⟨e,rfl⟩:∃e,as=[e]:=by match as,G with | [e],_=>exact⟨e,rfl⟩
  have D:=y 0 (by simp) (by simp);have L:0<=v.t:=ok.2.1;have t7:v.t<=7:=ok.2.2;refine⟨(R.ct,jh K R.ct),by simp[qB],dx,_,h1,rfl,a,dx,l,b,e,v.n,v.o1,v.c,v.t,rfl,h1,I,e,p,r,c,v.t.toNat,by rw[No L],aW.of D,hp.rc,hp.r0,hp.c0,by have:=hp.r6;omega,by have:=hp.c6;omega,⋯,q _ rfl⟩
abbrev rh:Stmt:=ij 58
inductive oq(K:W.Frag)(vs:List V)(H:Hp)(Q:VK)(_E:XK):Prop
 |mk (a:Addr) (ns:List Int) (k:Nat) (_:vs=[.ref a,.int (k:Int)]) (_:aW K H a (ns.map V.int)) (_:k<=1000) (_:∀c:Int,Q (.int c) H)
theorem BP:aw ["_law_script","_law_k","_law_cell_here","_law_mixed"] ["_law_script","_law_k"] (aj rh):=by walk_at "c"
theorem B5{f:Addr}(F:cF K "_law_cell" "_law_cell" rh f fd)(nb:NB mg):↑aS 1 f fd ["_law_script","_law_k"] (oq K):=by
 have sc:=BP;walk_at "f"
 ·obtain⟨a,ns,k,rfl,hS,hk,q⟩:=h
  refine⟨_,(af (q01 2 sc.nd ah)
   (af (bC (aK jx (av bi rfl nb.len aV (aa (pv 0) ac)) ah (aN _))
   (ai (q01 2 sc.nd (aE Ab (pv 0) (au br (pv 1) (av bi rfl nb.len aV (aa (pv 0) ac))) (λ_ _=>rfl))))
   aL)
   (af (q01 3 sc.nd (au br (au fA (au bF (au bF (au br (pv 2) ah) (au fA ah (pv 1))) ah) ah) ah))
   (ai (aF (au bF (au fA (au bR (pv 2) ah) ah) (au br (au bF (au fA (pv 3) ah) (pv 1)) ah))))))),?_⟩
  ext;refine⟨_,hS,?_⟩;rw[MA]
  split
  ·rename_i hlt
   have h0:0<=(k:Int)%(ns.length:Int):=Nm _ ⋯;have h1:(k:Int)%(ns.length:Int)<ns.length:=Nn _ ⋯;obtain⟨j,hj⟩:∃j:Nat,(k:Int)%(ns.length:Int)=(j:Int):=⟨_,(No h0).symm⟩;have hj2:j<ns.length:=by omega
   refine⟨_,hS,by rw[MA];omega,_,hS,V.int ns[j],?_,_,rfl,_,rfl,q _⟩;rw[MA,hj];exact aU (by rw[MC,Mx hj2];rfl)
  ·exact q _
def G9(d s m:Nat):List Nat:=(List.range (1+m)).map λi=>97+(d+(1+2*s)*i)%26
theorem Fx:∀d,d<26->∀s,s<6->∀m,m<4->fm (G9 d s m)=true:=by decide +kernel
theorem Ew:∀n,n<26->(Str.ofString "abcdefghijklmnopqrstuvwxyz").cps.toList[n]?=some (97+n):=by decide +kernel
theorem mG(h:fm r=true):1<=r.length/\r.length<=4:=by
 unfold fm at h;simp only[q0L,q0W]at h;exact⟨h.1.1.1,h.1.1.2⟩
abbrev ol:Stmt:=ij 61
inductive qg(vs:List V)(H:Hp)(Q:VK)(_E:XK):Prop
 |mk (c:Int) (_:vs=[.int c,.int 4]) (_:∀(r:Nw) (H':Hp),fm r=true->az H H'->Q (.str (tx r)) H')
theorem x6:aw ["_law_cell_here","_law_most","_law_letters","_law_step_here"] ["_law_cell_here","_law_most"] (aj ol):=by walk_at "c"
theorem zW{f:Addr}(F:cF K "_law_signs" "_law_signs" ol f fd)(nb:NB mg):↑aS 1 f fd ["_law_cell_here","_law_most"] qg:=by
 have sc:=x6;walk_at "f"
 ·obtain⟨c,rfl,q⟩:=h
  refine⟨_,(af (aD (i:=2) sc.nd rfl (Or.inr rfl) ri)
   (af (aD (i:=3) sc.nd rfl (Or.inr rfl) (au (bc.m0 bF) ah (au (bc.m1 fA) ah (au (bc.m1 br) (au (bc.m1 bR) (al 0) ah) ah))))
   (ai (aF (@AK _ _ _ _ _ _ _ _ (aa (cH ["_law_k"] [2,0,3] rfl (bE.of (by kernel_rfl)) (by kernel_rfl) (eS rfl nb.range (aa (au (bc.m0 bF) ah (au (bc.m1 br) (au (bc.m1 br) (al 0) ah) (al 1))) ac))
    (λ_ _ _ _=>(aB (i:=0) (by show(["_law_k","_law_letters","_law_cell_here","_law_step_here"]:List Str).Nodup;decide +kernel) rfl (Or.inl rfl))) (λ_ _ _ _=>ce) (λ_ _ _ _=>(aE oh (al 1) (au (bc.m1 br) (au (bc.m0 bF) (au (bc.m1 bR) (al 2) ah) (au (bc.m1 fA) (al 3) (al 0))) ah) (λ_ _=>rfl)))) ac) rfl rfl))))),?_⟩
  obtain⟨m,v⟩:∃m:Nat,c%4%4=(m:Int):=⟨_,(No (Nm _ ⋯)).symm⟩;obtain⟨b,g⟩:∃m:Nat,c/104%6=(m:Int):=⟨_,(No (Nm _ ⋯)).symm⟩;obtain⟨d,C⟩:∃m:Nat,c/4%26=(m:Int):=⟨_,(No (Nm _ ⋯)).symm⟩;have r:m<4:=by omega
  have p:b<6:=by omega
  have I:d<26:=by omega
  symm;refine h1 _ _ ?_;grind;rw[g];refine h1 _ _ ?_;clear h1;ext;rw[v];have D:(1+(m:Int)).toNat=1+m:=by omega
  rw[D];refine⟨rfl,⋯,⋯,?_⟩;have k:∀i:Nat,(c/4+(1+2*(b:Int))*(i:Int))%26=(((d+(1+2*b)*i)%26:Nat):Int):=λi=>by
   rw[Int.add_emod,C]
   push_cast
   rw[Int.add_emod (d:Int) ((1+2*(b:Int))*(i:Int)),Int.emod_eq_of_lt (a:=(d:Int)) ⋯ ⋯]
  refine py (n:=1+m) (f:=λi=>some (V.str ⟨#[97+(d+(1+2*b)*i)%26]⟩)) (λσ=>∃x,σ=[x,some (.str "abcdefghijklmnopqrstuvwxyz"),some (.int c),some (.int (1+2*(b:Int)))]) ⟨_,rfl⟩ ⋯ ?_ ?_
  ·rintro i hi σ J N1 N0 ⟨y,rfl⟩ e u k0
   ext;refine⟨.inl ⟨⋯,⋯⟩,nofun,97+(d+(1+2*b)*i)%26,?_,u _ _ _ rfl e ⟨_,rfl⟩⟩;rw[k i];exact aU (Ew _ (Nat.mod_lt _ ⋯))
  ·intro J e l B
   rw[kL];have j:(List.range (1+m)).map (λi=>V.str ⟨#[97+(d+(1+2*b)*i)%26]⟩)=((G9 d b m).map λc=>(⟨#[c]⟩:Str)).map V.str:=by
    unfold G9;rw[MN,MN];rfl
   rw[j];have o:=Fx d I b p m r;have hgl:=mG o;refine⟨_,.inl (aW.of ad),?_,?_⟩
   ·rw[MN]
    have G:((λy:Str=>y.length)∘λc=>(⟨#[c]⟩:Str))=λ_=>1:=by funext c;rfl
    have j:(Str.ofString "").length=0:=rfl;rw[G,List.map_const',List.sum_replicate_nat,MA,j];omega
   ·rw[gy]
    exact q _ _ o (e.trans (ae B))
theorem zy(r s:Nw):tx r++tx s=tx (r++s):=by
 show(⟨r.toArray++s.toArray⟩:Str)=⟨(r++s).toArray⟩;simp
theorem En{row:Nw}{n:Nat}(h:n<=row.length):Txt.slice (tx row) none (some (n:Int))=tx (row.take n):=by
 rw[tJ,HT.sIx_nat,Np h];show tx ((row.drop 0).take (n-0))=_;rw[Nr,Nat.sub_zero]
theorem zG{row:Nw}{n:Nat}(h:n<=row.length):Txt.slice (tx row) (some (n:Int)) none=tx (row.drop n):=by
 rw[tJ,HT.sIx_nat,Np h];show tx ((row.drop n).take (row.length-n))=_;rw[q0E (by rw[Nc];omega)]
theorem C9:∀n,n<26->(Str.ofString "ABCDEFGHIJKLMNOPQRSTUVWXYZ").cps.toList[n]?=some (65+n):=by decide +kernel
def Gj(c:Nat):Bool:=IQ G6 c
theorem E7:∀n,n<26->Gj (65+n)=true:=by decide +kernel
theorem Ic(x:Int):∃n:Nat,n<26/\x%26=(n:Int):=⟨(x%26).toNat,⋯,⋯⟩
theorem Gq{r:Nw}(h:∀x∈r,Gj x=true)(h1:1<=r.length)(h4:r.length<=4):dP r=true:=by
 have a:r.all (IQ G6)=true:=Nh.mpr h;unfold dP iN;rw[a];simp;omega
abbrev oG:Stmt:=ij 62
inductive qY(vs:List V)(H:Hp)(Q:VK)(_E:XK):Prop
 |mk (c:Int) (_:vs=[.int c]) (_:∀(l:Addr) (p:bN) (H':Hp),H l=none->H' l=some (.lst (aH p))->p.length=4->(∀r∈p,dP r=true)->az H H'->Q (.ref l) H')
theorem zq:aw ["_law_cell_here","_law_letters","_law_size","_law_at","_law_step_here","_law_base","_law_names_here","_law_k","_law_letter"] ["_law_cell_here"] (aj oG):=by walk_at "c"
theorem yU{f:Addr}(F:cF K "_law_names" "_law_names" oG f fd)(nb:NB mg):↑aS 1 f fd ["_law_cell_here"] qY:=by
 have sc:=zq;walk_at "f"
 ·obtain⟨c,rfl,q⟩:=h
  refine⟨_,(af (aD (i:=1) sc.nd rfl (Or.inr rfl) ri)
   (af (q01 2 sc.nd (au (bc.m0 bF) ah (au (bc.m1 br) (al 0) ah)))
   (af (q01 3 sc.nd (au (bc.m1 br) (au (bc.m1 bR) (al 0) ah) (al 2)))
   (af (q01 4 sc.nd (au (bc.m0 bF) ah (au (bc.m1 fA) ah (au (bc.m1 br) (au (bc.m1 bR) (al 0) ah) ah))))
   (af (q01 5 sc.nd (@AK _ _ _ _ _ _ _ _ (aa (cH ["_law_k"] [1,0] rfl (bE.of (by kernel_rfl)) (by kernel_rfl) (eS rfl nb.range (aa (al 2) ac))
    (λ_ _ _ _=>(aB (i:=0) (by show(["_law_k","_law_letters","_law_cell_here"]:List Str).Nodup;decide +kernel) rfl (Or.inl rfl))) (λ_ _ _ _=>ce) (λ_ _ _ _=>(aE oh (al 1) (au (bc.m1 br) (au (bc.m0 bF) (au (bc.m1 bR) (al 2) ah) (au (bc.m1 fA) ah (al 0))) ah) (λ_ _=>rfl)))) ac) rfl rfl))
   (af (q01 6 sc.nd (bK ac))
   (af (bP PassesOwn.never rfl (eS rfl nb.range (bj ac)) (q02 7 sc.nd)
   (af (q01 8 sc.nd (aE oh (al 1) (au (bc.m1 br) (au (bc.m0 bF) (au (bc.m1 bR) (al 0) ah) (au (bc.m1 fA) (al 4) (al 7))) ah) (λ_ _=>rfl)))
   (ai (bH (q03 (al 6) (aa (au je (au je (cJ Dz (al 5) dN (cW (al 3))) (al 8)) (cJ Dz (al 5) (cW (au (bc.m0 bF) (al 3) ah)) dN)) ac))))))
   (ai (aF (al 6)))))))))),?_⟩
  obtain⟨m,hm⟩:∃m:Nat,c%4=(m:Int):=⟨_,(No (Nm _ ⋯)).symm⟩;have m2:m<4:=by omega
  symm;refine h1 _ _ ?_;grind;refine h1 _ _ ?_;clear h1;rw[hm];symm;refine⟨⋯,h1 _ _ ?_⟩;clear h1;obtain⟨a,S⟩:∃k:Nat,c/4%(1+(m:Int))=(k:Int):=⟨_,(No (Nm _ ⋯)).symm⟩;have hat2:a<1+m:=by have:=Nn (c/4) (b:=1+(m:Int)) ⋯;omega
  rw[S];symm;refine h1 _ _ ?_;clear h1;generalize 1+2*(c/16%6)=st;symm;have en:(1+(m:Int)).toNat=1+m:=by omega
  rw[en];refine⟨rfl,⋯,⋯,?_⟩
  let fc:Nat->Nat:=λi=>65+((c/96+5*(i:Int))%26).toNat
  refine py (n:=1+m) (f:=λi=>some (V.str ⟨#[fc i]⟩)) (λσ=>∃x,σ=[x,some (.str "ABCDEFGHIJKLMNOPQRSTUVWXYZ"),some (.int c)]) ⟨_,rfl⟩ ⋯ ?_ ?_
  ·rintro i hi σ e N1 N0 ⟨y,rfl⟩ I k1 k0
   ext;obtain⟨n,h1,h2⟩:=Ic (c/96+5*(i:Int));refine⟨nofun,fc i,?_,k1 _ _ _ rfl I ⟨_,rfl⟩⟩;show gZ _ _=some (65+((c/96+5*(i:Int))%26).toNat);rw[h2];exact aU (C9 n h1)
  ·intro e I l hl
   rw[kL];have T:(List.range (1+m)).map (λi=>V.str ⟨#[fc i]⟩)=(((List.range (1+m)).map fc).map λc=>(⟨#[c]⟩:Str)).map V.str:=by rw[MN,MN];rfl
   rw[T];have j:∀x∈(List.range (1+m)).map fc,Gj x=true:=λx M=>by
    obtain⟨i,_,rfl⟩:=Ng.mp M;obtain⟨n,h1,h2⟩:=Ic (c/96+5*(i:Int));show Gj (65+((c/96+5*(i:Int))%26).toNat)=true;rw[h2];exact E7 n h1
   have R:((List.range (1+m)).map fc).length=1+m:=by simp
   generalize(List.range (1+m)).map fc=cs at j R ⊢;refine⟨_,.inl (aW.of ad),?_,?_⟩
   ·rw[MN]
    have e1:((λy:Str=>y.length)∘λc=>(⟨#[c]⟩:Str))=λ_=>1:=by funext c;rfl
    have T:(Str.ofString "").length=0:=rfl;rw[e1,List.map_const',List.sum_replicate_nat,MA,T];omega
   rw[gy];refine h1 _ _ ?_;clear h1;have J:=I.trans (ae (o:=.lst ((cs.map λc=>(⟨#[c]⟩:Str)).map V.str)) hl);generalize ay e l (.lst ((cs.map λc=>(⟨#[c]⟩:Str)).map V.str))=H1 at J ⊢;symm;refine⟨ak nofun,λu B=>h1 _ _ ?_⟩;clear h1;have C:=J.free B;have Y:=J.trans (ae (o:=.lst []) B);have Z:ay H1 u (.lst []) u=some (.lst []):=ad;generalize ay H1 u (.lst [])=H2 at Y Z ⊢;symm;refine⟨nofun,?_⟩;refine gF (n:=4) (λi σ e=>az H e/\(∃p:bN,e u=some (.lst (aH p))/\p.length=i/\∀r∈p,dP r=true)/\∃x y,σ=[some (V.int c),some (V.str (Str.ofString "ABCDEFGHIJKLMNOPQRSTUVWXYZ")),some (V.int (1+(m:Int))),some (V.int (a:Int)),some (V.int st),some (V.str (tx cs)),some (V.ref u),x,y]) ⟨Y,⟨[],Z,rfl,λr hr=>nomatch hr⟩,_,_,rfl⟩ ?_ ?_
   ·rintro i σ e hi ⟨g,⟨p,G,D,L⟩,x,y,rfl⟩
    ext;obtain⟨n,v,O⟩:=Ic (c/2496+st*(i:Int));have nm:dP (cs.take a++[65+n]++cs.drop (a+1))=true:=by
     refine Gq (λx M=>?_) (by simp;omega) (by simp;omega);rcases MM.mp M with h | h
     ·rcases MM.mp h with h | h
      ·exact j x (q0F h)
      ·rw[MB.mp h];exact E7 n v
     ·exact j x (List.mem_of_mem_drop h)
    have U:((a:Int)+1)=((a+1:Nat):Int):=by push_cast;rfl
    rw[En ⋯,U,zG ⋯];have lt1:(cs.take a).length<=4:=by rw[Nb];omega
    have lt2:(cs.drop (a+1)).length<=4:=by rw[Nc];omega
    have ez:tx (cs.take a)++(⟨#[65+n]⟩:Str)++tx (cs.drop (a+1))=tx (cs.take a++[65+n]++cs.drop (a+1)):=by rw[show(⟨#[65+n]⟩:Str)=tx [65+n] from rfl,zy,zy]
    refine⟨.inr ⟨⋯,⋯⟩,nofun,65+n,by rw[O];exact aU (C9 n v),.inl ⟨rfl,_,aW.of G⟩,by rw[aA];exact ak ⋯,?_,by rw[aA];exact ak ⋯,?_,_,G,by rw[ar,D];exact bq ⋯,?_⟩
    ·rw[aA];exact ak (by show _+1<=_;omega)
    ·rw[show(⟨#[65+n]⟩:Str)=tx [65+n] from rfl,zy,aA,aA];exact ak (by simp;omega)
    ·rw[ez]
     refine⟨gC g C,p++[cs.take a++[65+n]++cs.drop (a+1)],?_,by rw[MV,D];rfl,λr hr=>?_⟩
     ·rw[ad];unfold aH;rw[ML];rfl
     ·rcases MM.mp hr with h | h
      ·exact L r h
      ·rw[MB.mp h];exact nm
   ·rintro σ e ⟨g,⟨p,G,D,L⟩,x,y,rfl⟩
    refine h1 _ _ ?_;ext;exact q u p e C G D L g
def i5(r:Nat×RV):List V:=match r.1 with
 |0=>[.str (tx r.2.n),.int r.2.c,.int 0,.str (tx r.2.sg),.str ""]
 |1=>[.str (tx r.2.n),.int r.2.c,.int 1,.str (tx r.2.o1),.str (tx r.2.o2)]
 |2=>[.str (tx r.2.n),.int r.2.c,.int 2,.str (tx r.2.o1),.str (tx r.2.o2)]
 |_=>[.str (tx r.2.n),.int r.2.c,.int 3,.str (tx r.2.o1),.int r.2.t]
def iz(H:Hp)(l:Addr)(ts:NA)(rs:Yaa):Prop:=H l=some (.lst (ts.map V.ref))/\ts.length=rs.length/\∀(i:Nat) t r,ts[i]?=some t->rs[i]?=some r->H t=some (.tup (i5 r))
theorem iz.up(h:iz H l ts rs)(s:az H H'):iz H' l ts rs:=⟨s _ _ h.1,h.2.1,λi t r e1 e2=>s _ _ (h.2.2 i t r e1 e2)⟩
theorem kP{k:Nat}(h:k<4):k=0\/k=1\/k=2\/k=3:=by omega
structure fj(r:Nat×RV):Prop where
 k4:r.1<4
 good:r.2.good
 small:r.2.small
abbrev qQ:Stmt:=ij 63
inductive oy(R:RC)(vs:List V)(H:Hp)(Q:VK)(_E:XK):Prop
 |mk (t:Addr) (r:Nat×RV) (_:vs=[.ref t]) (_:H t=some (.tup (i5 r))) (_:fj r) (_:∀b H',jt R H' r.1 b r.2->az H H'->Q (.ref b) H')
theorem BD:aw ["_law_rule_here"] ["_law_rule_here"] (aj qQ):=by walk_at "c"
theorem BJ{f CF:Addr}(F:cF K "_law_rule" "_law_rule" qQ f fd)(nb:NB mg)(rk:pJ K R)
  (zQb:lz P w K mg base (bG P w) 4 "CellRule" R.cc ["self","name","cost","sign"] (iZ K CF)) (ztb:lz P w K mg base (bG P w) 4 "BesideRule" R.cb ["self","name","cost","one","other"] (dD K CF))
  (zBb:lz P w K mg base (bG P w) 4 "AboveRule" R.ca ["self","name","cost","one","other"] (dD K CF)) (zRb:lz P w K mg base (bG P w) 4 "TurnRule" R.ct ["self","name","cost","part","turning"] (jl K CF)):↑aS 6 f fd ["_law_rule_here"] (oy R):=by
 have sc:=BD;walk_at "f"
 ·obtain⟨t,⟨k,v⟩,rfl,I,⟨J,g,B⟩,good⟩:=h
  refine⟨_,(af (bC (aK fq (aE aC (al 0) ah (λ_ _=>rfl)) ah (aN _))
   (ai (aF (gl (CX:=bG P w) zQb (hr.mono nofun) rfl bt (aa (aE aC (al 0) ah (λ_ _=>rfl)) (aa (aE aC (al 0) ah (λ_ _=>rfl)) (aa (aE aC (al 0) ah (λ_ _=>rfl)) ac))))))
   aL)
   (af (bC (aK fq (aE aC (al 0) ah (λ_ _=>rfl)) ah (aN _))
   (ai (aF (gl (CX:=bG P w) ztb (hr.mono nofun) rfl bt (aa (aE aC (al 0) ah (λ_ _=>rfl)) (aa (aE aC (al 0) ah (λ_ _=>rfl)) (aa (aE aC (al 0) ah (λ_ _=>rfl)) (aa (aE aC (al 0) ah (λ_ _=>rfl)) ac)))))))
   aL)
   (af (bC (aK fq (aE aC (al 0) ah (λ_ _=>rfl)) ah (aN _))
   (ai (aF (gl (CX:=bG P w) zBb (hr.mono nofun) rfl bt (aa (aE aC (al 0) ah (λ_ _=>rfl)) (aa (aE aC (al 0) ah (λ_ _=>rfl)) (aa (aE aC (al 0) ah (λ_ _=>rfl)) (aa (aE aC (al 0) ah (λ_ _=>rfl)) ac)))))))
   aL)
   (ai (aF (gl (CX:=bG P w) zRb (hr.mono nofun) rfl bt (aa (aE aC (al 0) ah (λ_ _=>rfl)) (aa (aE aC (al 0) ah (λ_ _=>rfl)) (aa (aE aC (al 0) ah (λ_ _=>rfl)) (aa (aE aC (al 0) ah (λ_ _=>rfl)) ac)))))))))),?_⟩
  have a:=aZ.of (K:=K) I;have g:v.good:=g;have B:v.small:=g.small;have C:v.n.length<=100000:=by have:=B.n;omega
  have D:v.o1.length<=100000:=by have:=B.o1;omega
  have G:v.o2.length<=100000:=by have:=B.o2;omega
  have bs:v.sg.length<=100000:=by have:=B.sg;omega
  ext;rcases kP J with rfl | rfl | rfl | rfl
  ·change aZ K H t [.str (tx v.n),.int v.c,.int 0,.str (tx v.sg),.str ""]at a
   refine⟨_,a,_,rfl,rfl,?_⟩;rw[q07 rfl];refine⟨_,a,_,rfl,_,a,_,rfl,_,a,_,rfl,λx j o r q=>?_⟩;exact⟨x,R.cc,j,v.n,v.sg,v.c,rfl,ad,rk.i0.cl,rk.a0,C,bs,λok m y l p e u=>⟨rfl,good x y ⟨j,m,u,e⟩ (kU o r l)⟩,λb=>q0N (g.ok 0) b⟩
  ·change aZ K H t [.str (tx v.n),.int v.c,.int 1,.str (tx v.o1),.str (tx v.o2)]at a
   refine⟨_,a,_,rfl,rfl,?_⟩;rw[q06 nofun];refine⟨_,a,_,rfl,rfl,?_⟩;rw[q07 rfl];refine⟨_,a,_,rfl,_,a,_,rfl,_,a,_,rfl,_,a,_,rfl,λx j o r q=>?_⟩;exact⟨x,R.cb,j,v.n,v.o1,v.o2,v.c,rfl,ad,rk.i1.cl,rk.a1,C,D,G,λok m y l p e u=>⟨rfl,good x y ⟨j,m,u,e⟩ (kU o r l)⟩,λb=>q0N (g.ok 1) b⟩
  ·change aZ K H t [.str (tx v.n),.int v.c,.int 2,.str (tx v.o1),.str (tx v.o2)]at a
   refine⟨_,a,_,rfl,rfl,?_⟩;rw[q06 nofun];refine⟨_,a,_,rfl,rfl,?_⟩;rw[q06 nofun];refine⟨_,a,_,rfl,rfl,?_⟩;rw[q07 rfl];refine⟨_,a,_,rfl,_,a,_,rfl,_,a,_,rfl,_,a,_,rfl,λx j o r q=>?_⟩;exact⟨x,R.ca,j,v.n,v.o1,v.o2,v.c,rfl,ad,rk.i2.cl,rk.a2,C,D,G,λok m y l p e u=>⟨rfl,good x y ⟨j,m,u,e⟩ (kU o r l)⟩,λb=>q0N (g.ok 2) b⟩
  ·change aZ K H t [.str (tx v.n),.int v.c,.int 3,.str (tx v.o1),.int v.t]at a
   refine⟨_,a,_,rfl,rfl,?_⟩;rw[q06 nofun];refine⟨_,a,_,rfl,rfl,?_⟩;rw[q06 nofun];refine⟨_,a,_,rfl,rfl,?_⟩;rw[q06 nofun];refine⟨_,a,_,rfl,_,a,_,rfl,_,a,_,rfl,_,a,_,rfl,λx j o r q=>?_⟩;exact⟨x,R.ct,j,v.n,v.o1,v.c,v.t,rfl,ad,rk.i3.cl,rk.a3,C,D,λok m y l p e u=>⟨rfl,good x y ⟨j,m,u,e⟩ (kU o r l)⟩,λb=>q0N (g.ok 3) b⟩
structure r8(p:bN)(sg:Nw)(r:Nat×RV):Prop where
 good:fj r
 n:r.2.n∈p
 o1:r.2.o1∈p
 o2:r.2.o2∈p
 sg:∃c∈sg,r.2.sg=[c]
theorem iz.app{t:Addr}(h:iz H l ts rs)(ht:H t=some (.tup (i5 r))):iz (ay H l (.lst (ts.map V.ref++[V.ref t]))) l (ts++[t]) (rs++[r]):=by
 obtain⟨h1,h2,n⟩:=h;refine⟨by rw[ad,ML];rfl,by rw[MV,MV,h2];rfl,λi c g b j=>?_⟩;have a:∀c g,H c=some (.tup (i5 g))->ay H l (.lst (ts.map V.ref++[V.ref t])) c=some (.tup (i5 g)):=λc g e=>by
  rw[ao (λz=>by rw[z,h1]at e;cases e)];exact e
 by_cases m:i<ts.length
 ·rw[MU m]at b
  rw[MU ⋯]at j;exact a _ _ (n i c g b j)
 ·rw[MT ⋯]at b
  rw[MT ⋯]at j;have k:i=ts.length:=by
   have:=(My.mp b).1;simp at this;omega
  subst k;rw[Nat.sub_self]at b;rw[h2,Nat.sub_self]at j;cases b;cases j
  exact a _ _ ht
theorem wJ(h:fm r=true):iN r qk=true:=by
 unfold fm at h;simp only[q0L,q0W]at h;exact h.1.2
theorem FT{c:Nat}(h:fm r=true)(hc:c∈r):j9 [c]=true:=by
 have:=wJ h;unfold iN at this;rw[Nh]at this;unfold j9 iN;rw[List.all_cons,this c hc]
 rfl
def dz(ks:NF)(z:Str):List Str:=if z∈ks then ks else ks++[z]
theorem tT(m:List (Str×List Nat))(z:Str):(cn m z).map (·.1)=dz (m.map (·.1)) z:=by
 unfold cn dz
 split
 ·rfl
 ·rw[ML];rfl
theorem r_:∀(zs:NF) (m:List (Str×List Nat)),(zs.foldl cn m).map (·.1)=zs.foldl dz (m.map (·.1))
 | [],_=>rfl
 |z::zs,m=>by rw[List.foldl_cons,List.foldl_cons,r_ zs,tT]
theorem Bz(m:List (Str×List Nat))(i:Nat)(r:Nat×RV):(fL m i r).map (·.1)=(tx r.2.n::(aO r.1 r.2).map tx).foldl dz (m.map (·.1)):=by
 unfold fL;rw[r_,jq,tT,List.foldl_cons]
theorem yM(ks:NF)(z:Str):(dz ks z).length<=ks.length+1:=by
 unfold dz;split
 ·omega
 ·simp
theorem F6(a b:Str):l9 (V.str a) (V.str b)=(a==b):=rfl
theorem wO(z:Str):∀ks:List Str,IN (V.str z) (ks.map V.str)=decide (z∈ks)
 | []=>rfl
 |k::ks=>by
  have ih:=wO z ks;unfold IN at ih ⊢;rw[M5,List.any_cons,ih,F6]
  by_cases h:z=k
  ·subst h
   rw[beq_self_eq_true,q09 q0B];rfl
  ·have h1:(k==z)=false:=beq_eq_false_iff_ne.mpr λe=>h e.symm
   rw[h1,Bool.false_or]
   by_cases hm:z∈ks
   ·rw[q09 hm,q09 (MP _ hm)]
   ·rw[q08 hm,q08 (λq=>(MO.mp q).elim h hm)]
theorem Ba(ks:NF):(ks.map V.str).all eM=true:=by
 rw[List.all_map,Nh];intro x _;rfl
def bW(z:Str)(rs:Yaa):List Nat:=rs.zipIdx.filterMap λx=>if tx x.1.2.n=z then some x.2 else none
theorem qT(z:Str)(rs:Yaa)(r:Nat×RV):bW z (rs++[r])=bW z rs++if tx r.2.n=z then[rs.length] else[]:=by
 unfold bW;rw[List.zipIdx_append,List.filterMap_append]
 congr 1
 simp
 split<;>rename_i h<;>simp[h]
theorem zE{z:Str}:∀{rs:Yaa},(∀r∈rs,tx r.2.n≠z)->bW z rs=[]:=by
 intro rs h;unfold bW;rw[List.filterMap_eq_nil_iff];intro x a;rw[q06 (h x.1 (List.fst_mem_of_mem_zipIdx a))]
structure NI(rs:Yaa)(m:List (Str×List Nat)):Prop where
 nd:(m.map (·.1)).Nodup
 ix:∀q∈m,q.2=bW q.1 rs
 all:∀r∈rs,tx r.2.n∈m.map (·.1)
theorem q_{z y:Str}:y∈(cn m z).map (·.1)↔y∈m.map (·.1)\/y=z:=by
 unfold cn
 split
 ·rename_i h
  exact⟨λq=>.inl q,λq=>q.elim id λe=>e▸h⟩
 ·rw[ML,MM];simp
theorem NI.name(h:NI rs m)(z:Str):NI rs (cn m z):=by
 refine⟨m3 h.nd,λq hq=>?_,λr hr=>q_.mpr (.inl (h.all r hr))⟩;unfold cn at hq
 split at hq
 ·exact h.ix q hq
 ·rename_i hz
  rcases MM.mp hq with q1 | q1
  ·exact h.ix q q1
  ·rw[MB.mp q1]
   exact(zE (z:=z) λr hr e=>hz (by rw[<- e];exact h.all r hr)).symm
theorem NI.names:∀(zs:NF) {m:List (Str×List Nat)},NI rs m->NI rs (zs.foldl cn m)
 | [],_,h=>h
 |z::zs,m,h=>NI.names zs (h.name z)
theorem NI.put{r:Nat×RV}(h:NI rs m)(hn:tx r.2.n∈m.map (·.1)):NI (rs++[r]) (jz m (tx r.2.n) rs.length):=by
 refine⟨by rw[jq];exact h.nd,λq b=>?_,λg a=>?_⟩
 ·unfold jz at b
  obtain⟨p,c,rfl⟩:=Ng.mp b;rw[qT]
  by_cases e:p.1=tx r.2.n
  ·rw[q07 e]
   show p.2++[rs.length]=bW p.1 rs++_;rw[q07 e.symm,h.ix p c]
  ·rw[q06 e,q06 (λz=>e z.symm),M9]
   exact h.ix p c
 ·rw[jq]
  rcases MM.mp a with q | q
  ·exact h.all g q
  ·rw[MB.mp q];exact hn
theorem oK(z:Str):∀(n:Nat) (rs:Yaa),rs.length=n->NI rs (bf z rs)
 |0,rs,h=>by
  rw[Nf.mp h];exact⟨by simp[bf,gJ],λq hq=>by rw[show q=(z,[]) by simpa[bf,gJ]using hq];rfl,λr hr=>nomatch hr⟩
 |n+1,rs,h=>by
  obtain⟨rs',r,rfl⟩:∃rs' r,rs=rs'++[r]:=⟨rs.dropLast,rs.getLast (by intro e;rw[e]at h;cases h),(List.dropLast_concat_getLast _).symm⟩;have hl:rs'.length=n:=by rw[MV,q0U]at h;omega
  have a:=oK z n rs' hl;unfold bf at a ⊢;rw[h_,Nat.zero_add];unfold fL;exact((a.name (tx r.2.n)).put (q_.mpr (.inr rfl))).names _
theorem uf:∀{m:List (Str×List Nat)} {q:Str×List Nat},(m.map (·.1)).Nodup->q∈m->m.lookup q.1=some q.2
 |p::m,q,hnd,hq=>by
  rw[M5,List.nodup_cons]at hnd;rw[List.lookup_cons];rcases MO.mp hq with e | e
  ·rw[e];simp
  ·have hne:q.1≠p.1:=λz=>hnd.1 (z▸List.mem_map_of_mem e)
   have:(q.1==p.1)=false:=beq_eq_false_iff_ne.mpr hne;rw[this];exact uf hnd.2 e
theorem AO{z:Str}{q:Str×List Nat}(h:q∈bf z rs):(bf z rs).lookup q.1=some (bW q.1 rs)/\q.2=bW q.1 rs:=by
 have N:=oK z _ rs rfl;have e:=N.ix q h;exact⟨by rw[uf N.nd h,e],e⟩
theorem uv(z:Str)(rs:Yaa):(bW z rs).length<=rs.length:=by
 unfold bW;exact M6 (List.length_filterMap_le _ _) (by rw[List.length_zipIdx];exact MW _)
theorem yp{Q:List V->Hp->Prop}(hR:iz H l ts rs)(hg:∀r∈rs,fj r)(hn:rs.length<=100)(q:∀(as:NA) H',az H H'->cT R H' as rs->Q (as.map V.ref) H') :
  jy (Fr K l) (lN 0) Af (pw (oy R) [] E0 (qJ (Cu 0) uX)) [none] H Q:=by
 obtain⟨I,w,B⟩:=hR;refine nO (xs:=ts.map V.ref) (λi c σ H'=>az H H'/\(∃as:List Addr,c=as.map V.ref/\cT R H' as (rs.take i))/\i<=ts.length/\∃x,σ=[x]) ⟨az.refl _,⟨[],rfl,rfl,λi a r e=>by simp at e⟩,MX _,_,rfl⟩ ?_ ?_ ?_ ?_ ?_
 ·rintro i c σ H' ⟨_,⟨as,rfl,h,_⟩,J,_⟩
  rw[MA,h,Nb];exact bq ⋯
 ·rintro i c σ H' ⟨_,_,h,_⟩
  rw[MA];exact h
 ·rintro i c σ H' ⟨m,_⟩
  exact aW.of (m _ _ I)
 ·rintro i x c σ H' v ⟨m,⟨as,rfl,g⟩,J,y,rfl⟩
  have k:i<ts.length:=by have:=(My.mp v).1;rwa [MA]at this
  rw[MC,Mx k]at v;cases v;have p:i<rs.length:=by omega
  have o:rs[i]?=some rs[i]:=Mx p;have G:=m _ _ (B i ts[i] rs[i] (Mx k) o);ext;refine⟨ts[i],rs[i],rfl,G,hg _ (MH p),λb H2 L C=>⟨m.trans C,⟨as++[b],by rw[ML];rfl,?_⟩,k⟩⟩;have hal:as.length=i:=by have:=g.1;rw[Nb]at this;omega
  rw[q0D,o];refine⟨by rw[MV,MV,g.1];rfl,λj a r n u=>?_⟩
  by_cases D:j<as.length
  ·rw[MU D]at n
   rw[MU (by rw[<- g.1];exact D)]at u;exact(g.2 j a r n u).up C
  ·rw[MT ⋯]at n
   rw[MT (by rw[<- g.1];omega)]at u;have:j-as.length=0:=by
    have:=(My.mp n).1;simp at this;omega
   rw[this]at n;rw[<- g.1,this]at u;cases n;cases u
   exact L
 ·rintro c σ H' ⟨m,⟨as,rfl,g⟩,_⟩
  rw[MA,w,Na]at g;exact q as H' m g
def GJ(rs:Yaa):List ThM.NR:=rs.map λr=>(tx r.2.n,(aO r.1 r.2).map tx)
theorem zX{ks:NF}{z y:Str}:y∈dz ks z↔y∈ks\/y=z:=ThM.mem_addNew
theorem ni{y:Str}:∀(zs ks:NF),y∈zs.foldl dz ks↔y∈ks\/y∈zs
 | [],ks=>by simp
 |z::zs,ks=>by
  rw[List.foldl_cons,ni zs,zX,MO];exact⟨λh=>h.elim (λh=>h.elim .inl λe=>.inr (.inl e)) λh=>.inr (.inr h),λh=>h.elim (λh=>.inl (.inl h)) λh=>h.elim (λe=>.inl (.inr e)) .inr⟩
theorem nc:∀(zs ks:NF),(zs.foldl dz ks).length<=ks.length+zs.length
 | [],ks=>MW _
 |z::zs,ks=>by
  have h1:=nc zs (dz ks z);have h2:=yM ks z;rw[List.foldl_cons,MK];omega
theorem AY(z:Str)(rs:Yaa)(r:Nat×RV):(bf z (rs++[r])).map (·.1)=(tx r.2.n::(aO r.1 r.2).map tx).foldl dz ((bf z rs).map (·.1)):=by
 unfold bf;rw[h_,Bz]
theorem C_{α:Type}{P:List α->Prop}(h0:P [])(h1:∀rs r,P rs->P (rs++[r]))(rs:List α):P rs:=by
 have:∀(n:Nat) (rs:List α),rs.length=n->P rs:=by
  intro n
  induction n with
  |zero=>intro rs h;rw[Nf.mp h];exact h0
  |succ n ih=>
   intro rs h;have a:rs≠[]:=by intro e;rw[e]at h;cases h
   rw[<- List.dropLast_concat_getLast a];exact h1 _ _ (ih _ (by rw[List.length_dropLast];omega))
 exact this _ rs rfl
theorem nh(z:Str)(rs:Yaa):∀y,y∈(bf z rs).map (·.1)↔y=z\/∃r∈GJ rs,y=r.1\/y∈r.2:=by
 refine C_ (P:=λrs=>∀y,y∈(bf z rs).map (·.1)↔y=z\/∃r∈GJ rs,y=r.1\/y∈r.2) ?_ ?_ rs
 ·intro y
  have e:(bf z []).map (·.1)=[z]:=rfl;rw[e];unfold GJ;simp
 ·intro rs r a y
  rw[AY,ni,a y,MO];unfold GJ;rw[ML]
  constructor
  ·rintro((h | ⟨q,hq,h⟩) | h)
   ·exact .inl h
   ·exact .inr ⟨q,MM.mpr (.inl hq),h⟩
   ·exact .inr ⟨_,MM.mpr (.inr (MB.mpr rfl)),h⟩
  ·rintro(h | ⟨q,hq,h⟩)
   ·exact .inl (.inl h)
   ·rcases MM.mp hq with hq | hq
    ·exact .inl (.inr ⟨q,hq,h⟩)
    ·rw[MB.mp hq]at h
     exact .inr h
theorem FN{sg:Nw}{c:Nat}(h:c∈sg):Jf (tx sg) (tx [c])=true:=by
 have:=StrLaws.found_one (tx sg) c;show(!(Builtin.Str.occurrences (tx sg) ⟨#[c]⟩ 0 (tx sg).length 1).isEmpty)=true;rw[this,g9,q09 h]
theorem ny{sg:Nw}:∀{rs:Yaa} {j:Nat},(∀r∈rs,∃c∈sg,r.2.sg=[c])->hV (tx sg) rs j=none
 | [],_,_=>rfl
 |r::rs,j,h=>by
  obtain⟨c,hc,e⟩:=h r q0B;unfold hV;rw[q06 (λz=>by rw[e,FN hc]at z;exact q0N z.2 nofun)];exact ny λr' hr'=>h r' (MP _ hr')
theorem BI{p:bN}{st:Nw}{rs:Yaa}(hsg:fm sg=true)(hst:st∈p)(hpn:∀r∈p,dP r=true)(hp:p.length<=8)(hn:rs.length<=24)(hr:∀r∈rs,r8 p sg r):io sg st rs=none:=by
 have l:i_ sg st rs=none:=by
  unfold i_;rw[q06 (by rw[hsg];decide),q06 (by rw[hpn _ hst];decide),q06 ⋯,ny λr h=>(hr r h).sg]
 unfold io;rw[l];simp only[];rw[q06];have j:∀z∈(bf (tx st) rs).map (·.1),z∈p.map tx:=λz g=>by
  rcases(nh _ _ _).mp g with e | ⟨q,c,e⟩
  ·rw[e];exact List.mem_map_of_mem hst
  ·unfold GJ at c
   obtain⟨r,b,rfl⟩:=Ng.mp c;have R:=hr r b;rcases e with e | e
   ·rw[e];exact List.mem_map_of_mem R.n
   ·obtain⟨y,a,rfl⟩:=Ng.mp e
    refine List.mem_map_of_mem ?_;obtain⟨k,v⟩:=r;rcases kP R.good.k4 with rfl | rfl | rfl | rfl
    ·exact q0N a List.not_mem_nil
    ·rcases(show y=v.o1\/y=v.o2 by simpa[aO]using a) with rfl | rfl
     ·exact R.o1
     ·exact R.o2
    ·rcases(show y=v.o1\/y=v.o2 by simpa[aO]using a) with rfl | rfl
     ·exact R.o1
     ·exact R.o2
    ·rw[show y=v.o1 by simpa[aO]using a];exact R.o1
 have:=ThM.nd_len (oK (tx st) _ rs rfl).nd j;rw[MA,MA]at this;omega
structure JZ(K:W.Frag)(C:Addr):Prop where
 cl:fQ K C
 na:aq K C "signs"/\aq K C "start"/\aq K C "kept"/\aq K C "numbers"
abbrev TR:=List Nat×Nat×Nat×Int
def fw(r c:Nat):Int:=2*(r:Int)*(c:Int)-1
theorem iB(r c:Nat):fw r c=2*((r*c:Nat):Int)-1:=by unfold fw;push_cast;rw[Int.mul_assoc]
theorem b6{r c:Nat}(hr:1<=r)(hc:1<=c):1<=fw r c:=by
 rw[iB];have:1<=r*c:=Nat.mul_pos hr hc;omega
def nL(lo hi:Int):List Int:=(List.range (hi-lo).toNat).map fun(j:Nat)=>lo+(j:Int)
theorem kM{lo hi x:Int}:x∈nL lo hi↔lo<=x/\x<hi:=by
 unfold nL;rw[Ng]
 constructor
 ·rintro⟨j,a,rfl⟩
  rw[List.mem_range]at a;omega
 ·rintro⟨h1,h2⟩
  exact⟨(x-lo).toNat,by rw[List.mem_range];omega,⋯⟩
def bx(o1 o2:Nw)(szs:List ((Nat×Nat)×(Nat×Nat)))(left:Int):List (List TR):=
 szs.flatMap λz=>(nL (fw z.1.1 z.1.2) (left-fw z.2.1 z.2.2+1)).map λf=>[(o1,z.1.1,z.1.2,f),(o2,z.2.1,z.2.2,left-f)]
def gG(r c:Nat):List ((Nat×Nat)×(Nat×Nat)):=(List.range (c-1)).map λi=>((r,1+i),(r,c-(1+i)))
def gR(r c:Nat):List ((Nat×Nat)×(Nat×Nat)):=(List.range (r-1)).map λi=>((1+i,c),(r-(1+i),c))
def cG(q:Nat×RV)(r c:Nat)(k:Int):List (List TR):=match q.1 with
 |0=>if r=1/\c=1/\k=q.2.c then[[]] else[]
 |1=>bx q.2.o1 q.2.o2 (gG r c) (k-q.2.c)
 |2=>bx q.2.o1 q.2.o2 (gR r c) (k-q.2.c)
 |_=>[[(q.2.o1,if q.2.t%2=1 then c else r,if q.2.t%2=1 then r else c,k-q.2.c)]]
def aR(f:TR->Nat)(ps:List TR):Nat:=ps.foldl (λm p=>m*f p) 1
def gq(z:Nw)(rs:Yaa):Yaa:=rs.filter λq=>decide (q.2.n=z)
def cnt(rs:Yaa):Nat->TR->Nat
 |0,_=>0
 |f+1,p=>if p.2.1=0\/p.2.2.1=0\/6<p.2.1\/6<p.2.2.1\/p.2.2.2<fw p.2.1 p.2.2.1 then 0 else
  ((gq p.1 rs).map λq=>((cG q p.2.1 p.2.2.1 p.2.2.2).map λps=>aR (cnt rs f) ps).sum).sum
structure Hy(q:Nat×RV)(r c:Nat)(k:Int)(p:TR):Prop where
 lt:p.2.2.2<k
 ge:1<=p.2.2.2\/k-q.2.c<=p.2.2.2
 r1:1<=p.2.1
 c1:1<=p.2.2.1
 rm:p.2.1<=max r c
 cm:p.2.2.1<=max r c
 nm:(p.1=q.2.o1)\/(p.1=q.2.o2/\(q.1=1\/q.1=2))
theorem m8{szs:List ((Nat×Nat)×(Nat×Nat))}{left:Int}{ps:List TR}(h:ps∈bx o1 o2 szs left) :
  ∃z∈szs,∃f,fw z.1.1 z.1.2<=f/\f<=left-fw z.2.1 z.2.2/\ps=[(o1,z.1.1,z.1.2,f),(o2,z.2.1,z.2.2,left-f)]:=by
 unfold bx at h;obtain⟨z,a,h⟩:=List.mem_flatMap.mp h;obtain⟨f,b,e⟩:=Ng.mp h;have:=kM.mp b;exact⟨z,a,f,this.1,⋯,e.symm⟩
theorem yw{z:(Nat×Nat)×(Nat×Nat)}(h:z∈gG r c):z.1.1=r/\z.2.1=r/\1<=z.1.2/\1<=z.2.2/\z.1.2+z.2.2=c:=by
 obtain⟨i,a,rfl⟩:=Ng.mp h;rw[List.mem_range]at a;refine⟨rfl,rfl,?_,?_,?_⟩<;>show _<;>simp<;>omega
theorem yA{z:(Nat×Nat)×(Nat×Nat)}(h:z∈gR r c):z.1.2=c/\z.2.2=c/\1<=z.1.1/\1<=z.2.1/\z.1.1+z.2.1=r:=by
 obtain⟨i,a,rfl⟩:=Ng.mp h;rw[List.mem_range]at a;refine⟨rfl,rfl,?_,?_,?_⟩<;>show _<;>simp<;>omega
structure wZ(r c:Nat)(z:(Nat×Nat)×(Nat×Nat)):Prop where
 a:1<=z.1.1
 b:1<=z.1.2
 d:1<=z.2.1
 e:1<=z.2.2
 ma:z.1.1<=max r c
 mb:z.1.2<=max r c
 md:z.2.1<=max r c
 me:z.2.2<=max r c
 fe:fw z.1.1 z.1.2+fw z.2.1 z.2.2+1=fw r c
theorem kR{r:Nat}(hr:1<=r){z:(Nat×Nat)×(Nat×Nat)}(h:z∈gG r c):wZ r c z:=by
 obtain⟨h1,h2,k,j,g⟩:=yw h;obtain⟨⟨a,b⟩,d,e⟩:=z;simp only at h1 h2 k j g;subst h1 h2 g;refine⟨hr,k,hr,j,by simp;omega,by simp;omega,by simp;omega,by simp;omega,?_⟩;simp only[iB,Nat.mul_add];omega
theorem kI{c:Nat}(hc:1<=c){z:(Nat×Nat)×(Nat×Nat)}(h:z∈gR r c):wZ r c z:=by
 obtain⟨h1,h2,k,j,g⟩:=yA h;obtain⟨⟨a,b⟩,d,e⟩:=z;simp only at h1 h2 k j g;subst h1 h2 g;refine⟨k,hc,j,hc,by simp;omega,by simp;omega,by simp;omega,by simp;omega,?_⟩;simp only[iB,Nat.add_mul];omega
theorem eY{q:Nat×RV}{r c:Nat}{ps:List TR}(h4:q.1<4)(hr:1<=r)(hc:1<=c)(h:ps∈cG q r c k) :
  ps=[]\/(∃p,ps=[p]/\p.1=q.2.o1/\p.2.2.2=k-q.2.c/\((p.2.1=r/\p.2.2.1=c)\/(p.2.1=c/\p.2.2.1=r))) \/
  ((q.1=1\/q.1=2)/\∃z f,wZ r c z/\fw z.1.1 z.1.2<=f/\f<=k-q.2.c-fw z.2.1 z.2.2/\ps=[(q.2.o1,z.1.1,z.1.2,f),(q.2.o2,z.2.1,z.2.2,k-q.2.c-f)]):=by
 obtain⟨t,v⟩:=q;have:t=0\/t=1\/t=2\/t=3:=by simp at h4;omega
 rcases this with rfl | rfl | rfl | rfl
 ·left
  change ps∈(if r=1/\c=1/\k=v.c then[[]] else[]) at h
  split at h
  ·simpa using h
  ·simp at h
 ·right;right
  obtain⟨z,a,f,h1,h2,b⟩:=m8 (show ps∈bx v.o1 v.o2 (gG r c) (k-v.c) from h);exact⟨.inl rfl,z,f,kR hr a,h1,h2,b⟩
 ·right;right
  obtain⟨z,a,f,h1,h2,b⟩:=m8 (show ps∈bx v.o1 v.o2 (gR r c) (k-v.c) from h);exact⟨.inr rfl,z,f,kI hc a,h1,h2,b⟩
 ·right;left
  change ps∈[[(v.o1,(if v.t%2=1 then c else r),(if v.t%2=1 then r else c),k-v.c)]]at h;refine⟨_,by simpa using h,rfl,rfl,?_⟩
  by_cases e:v.t%2=1
  ·right;simp[e]
  ·left;simp[e]
theorem jQ{q:Nat×RV}{r c:Nat}{ps:List TR}{p:TR}(h4:q.1<4)(hq:1<=q.2.c)(hr:1<=r)(hc:1<=c)(h:ps∈cG q r c k)(hp:p∈ps):Hy q r c k p:=by
 rcases eY h4 hr hc h with rfl | ⟨p',rfl,l,e2,j⟩ | ⟨g,z,f,sz,h1,h2,rfl⟩
 ·cases hp
 ·rw[MB.mp hp]
  refine⟨⋯,.inr ⋯,?_,?_,?_,?_,.inl l⟩<;>rcases j with⟨a,b⟩ | ⟨a,b⟩<;>simp only[a,b]<;>omega
 ·have f1:=b6 sz.a sz.b
  have f2:=b6 sz.d sz.e;rcases(show p=_\/p=_ by simpa using hp) with rfl | rfl
  ·exact⟨by show f<k;omega,.inl (by show 1<=f;omega),sz.a,sz.b,sz.ma,sz.mb,.inl rfl⟩
  ·exact⟨by show k-q.2.c-f<k;omega,.inl (by show 1<=k-q.2.c-f;omega),sz.d,sz.e,sz.md,sz.me,.inr ⟨rfl,g⟩⟩
theorem uV{f g:TR->Nat}:∀{ps:List TR},(∀p∈ps,f p=g p)->aR f ps=aR g ps:=by
 intro ps h;unfold aR
 suffices this:∀m,ps.foldl (λm p=>m*f p) m=ps.foldl (λm p=>m*g p) m from this 1
 induction ps with
 |nil=>intro m;rfl
 |cons p ps ih=>
  intro m;rw[List.foldl_cons,List.foldl_cons,h p q0B];exact ih (λb a=>h b (MP _ a)) _
def eF(rs:Yaa):Prop:=∀q∈rs,q.1<4/\1<=q.2.c/\q.2.c<=9
theorem ik{z:Nw}{q:Nat×RV}(h:q∈gq z rs):q∈rs/\q.2.n=z:=by
 unfold gq at h;rw[List.mem_filter,q0W]at h;exact h
theorem Ct(hg:eF rs){f g:Nat}{p:TR}(h:∀p':TR,p'.2.2.2<p.2.2.2->cnt rs f p'=cnt rs g p'):cnt rs (f+1) p=cnt rs (g+1) p:=by
 unfold cnt
 split
 ·rfl
 ·rename_i hn
  congr 1
  refine q0H λq hq=>?_
  congr 1
  refine q0H λps hps=>uV λp' hp'=>h p' ?_;obtain⟨h1,h2,_⟩:=hg q (ik hq).1;exact(jQ h1 h2 ⋯ ⋯ hps hp').lt
theorem Ak{f:Nat}{p:TR}(h:p.2.2.2<1):cnt rs f p=0:=by
 cases f with
 |zero=>rfl
 |succ f=>
  unfold cnt
  split
  ·rfl
  ·rename_i hn
   have:=b6 (r:=p.2.1) (c:=p.2.2.1) ⋯ ⋯;omega
theorem xu(hg:eF rs):∀(f:Nat) (p:TR),p.2.2.2<(f:Int)+1->cnt rs (f+1) p=cnt rs f p
 |0,p,h=>by rw[Ak (by simpa using h),Ak (by simpa using h)]
 |f+1,p,h=>Ct hg λp' hp'=>xu hg f p' (by push_cast at h;omega)
abbrev CN(rs:Yaa)(p:TR):Nat:=cnt rs 17 p
theorem F5(hg:eF rs){p:TR}(hk:p.2.2.2<=16):CN rs p=if p.2.1=0\/p.2.2.1=0\/6<p.2.1\/6<p.2.2.1\/p.2.2.2<fw p.2.1 p.2.2.1 then 0 else
  ((gq p.1 rs).map λq=>((cG q p.2.1 p.2.2.1 p.2.2.2).map λps=>aR (CN rs) ps).sum).sum:=by
 have e:cnt rs 17 p=cnt rs 18 p:=(xu hg 17 p (by push_cast;omega)).symm;unfold CN;rw[e]
 rfl
theorem Dq{p:TR}(h:p.2.2.2<fw p.2.1 p.2.2.1):CN rs p=0:=by
 unfold CN cnt;rw[q07 ⋯]
theorem o_{α β:Type}{g:β->Nat}{f:α->List β}:∀l:List α,((l.flatMap f).map g).sum=(l.map λx=>((f x).map g).sum).sum
 | []=>rfl
 |x::l=>by rw[List.flatMap_cons,ML,List.sum_append,o_ l,M5,List.sum_cons]
theorem i8{α:Type}(g:α->Nat)(b:Nat):∀(l:List α),(∀x∈l,g x<=b)->(l.map g).sum<=l.length*b
 | [],_=>by simp
 |x::l,h=>by
  have h1:=i8 g b l λy hy=>h y (MP _ hy);have h2:=h x q0B;rw[M5,List.sum_cons,MK,Nat.add_mul];omega
theorem iU(r c:Nat):(gG r c).length=c-1:=by unfold gG;rw[MA,q0G]
theorem iX(r c:Nat):(gR r c).length=r-1:=by unfold gR;rw[MA,q0G]
theorem gv{left:Int}(h15:left<=15):∀(szs:List ((Nat×Nat)×(Nat×Nat))),(∀z∈szs,wZ r c z)->(bx o1 o2 szs left).length<=szs.length*15
 | [],_=>MW _
 |z::szs,h=>by
  have ih:=gv (o1:=o1) (o2:=o2) h15 szs λz' hz'=>h z' (MP _ hz');have f1:=b6 (h z q0B).a (h z q0B).b;have f2:=b6 (h z q0B).d (h z q0B).e;unfold bx at ih ⊢;rw[List.flatMap_cons,MV,MK,MA];unfold nL at ih ⊢;rw[MA,q0G];omega
def du(p:TR):List df:=[.inr (tx p.1),.inl (p.2.1:Int),.inl (p.2.2.1:Int),.inl p.2.2.2]
def b5(p:TR):List V:=[.str (tx p.1),.int (p.2.1:Int),.int (p.2.2.1:Int),.int p.2.2.2]
theorem dW(h:tx a=tx b):a=b:=by
 have e:(tx a).cps.toList=(tx b).cps.toList:=by rw[h]
 rwa [g9,g9]at e
theorem xJ(h:du p=du q):p=q:=by
 obtain⟨a,b,c,d⟩:=p;obtain⟨a',j,g,d'⟩:=q;unfold du at h;simp only[List.cons.injEq,Sum.inr.injEq,Sum.inl.injEq,and_true]at h;obtain⟨h1,h2,h3,e⟩:=h;rw[dW h1,show b=j by omega,show c=g by omega,e]
def qN(H:Hp)(l:Addr)(ps:List TR):Prop:=∃bs:List Addr,H l=some (.lst (bs.map V.ref))/\bs.length=ps.length/\∀(i:Nat) b p,bs[i]?=some b->ps[i]?=some p->H b=some (.tup (b5 p))
def fP(H0 H:Hp)(l:Addr)(pss:List (List TR)):Prop:=∃as:List Addr,H l=some (.lst (as.map V.ref))/\as.length=pss.length/\∀(i:Nat) a ps,as[i]?=some a->pss[i]?=some ps->(H0 a=none/\a≠l)/\qN H a ps
theorem qN.up{ps:List TR}(h:qN H l ps)(s:az H H'):qN H' l ps:=by
 obtain⟨bs,h1,h2,a⟩:=h;exact⟨bs,s _ _ h1,h2,λi b p e c=>s _ _ (a i b p e c)⟩
theorem fP.up{pss:List (List TR)}(h:fP H0 H l pss)(s:az H H'):fP H0 H' l pss:=by
 obtain⟨g,h1,h2,b⟩:=h;exact⟨g,s _ _ h1,h2,λi a ps e c=>⟨(b i a ps e c).1,(b i a ps e c).2.up s⟩⟩
theorem qN.put{l:Addr}{ps:List TR}(h:qN H a ps)(hne:a≠l)(hl:∃xs,H l=some (.lst xs)):qN (ay H l o) a ps:=by
 obtain⟨bs,h1,h2,c⟩:=h;obtain⟨xs,hl⟩:=hl;exact⟨bs,by rw[ao hne];exact h1,h2,λi b p j g=>by
  have e:=c i b p j g;rw[ao (λz=>by rw[z,hl]at e;cases e)];exact e⟩
theorem fP.nil{H:Hp}(h:H l=some (.lst [])):fP H0 H l []:=⟨[],h,rfl,λi a ps e=>by simp at e⟩
theorem fP.app{pss:List (List TR)}{ps:List TR}(h:fP H0 H l pss)(hx:H l=some (.lst xs))(ha:qN H a ps)(hf:H0 a=none)(hne:a≠l):fP H0 (ay H l (.lst (xs++[V.ref a]))) l (pss++[ps]):=by
 obtain⟨j,h1,h2,n⟩:=h;rw[hx]at h1;cases h1;refine⟨j++[a],by rw[ad,ML];rfl,by rw[MV,MV,h2];rfl,λi b k c e=>?_⟩
 by_cases m:i<j.length
 ·rw[MU m]at c
  rw[MU ⋯]at e;have:=n i b k c e;exact⟨this.1,this.2.put this.1.2 ⟨_,hx⟩⟩
 ·have g:i=j.length:=by
   have:=(My.mp c).1;simp at this;omega
  subst g;rw[MT (MW _),Nat.sub_self]at c;rw[h2,MT (MW _),Nat.sub_self]at e;cases c;cases e
  exact⟨⟨hf,hne⟩,ha.put hne ⟨_,hx⟩⟩
theorem fP.old{pss:List (List TR)}(h:fP H1 H l pss)(s:az H0 H1):fP H0 H l pss:=by
 obtain⟨g,h1,h2,b⟩:=h;exact⟨g,h1,h2,λi a ps e c=>⟨⟨s.free (b i a ps e c).1.1,(b i a ps e c).1.2⟩,(b i a ps e c).2⟩⟩
def FO(H:Hp)(as:NA)(szs:List ((Nat×Nat)×(Nat×Nat))):Prop:=as.length=szs.length/\∀(i:Nat) a z,as[i]?=some a->szs[i]?=some z->∃x y,H a=some (.tup [.ref x,.ref y])/\H x=some (.tup [.int (z.1.1:Int),.int (z.1.2:Int)])/\H y=some (.tup [.int (z.2.1:Int),.int (z.2.2:Int)])
def Kg(H:Hp)(l:Addr)(szs:List ((Nat×Nat)×(Nat×Nat))):Prop:=∃as:List Addr,H l=some (.lst (as.map V.ref))/\FO H as szs
theorem FO.up{szs:List ((Nat×Nat)×(Nat×Nat))}(h:FO H as szs)(s:az H H'):FO H' as szs:=⟨h.1,λi a z e1 e2=>by
 obtain⟨x,y,h1,h2,h3⟩:=h.2 i a z e1 e2;exact⟨x,y,s _ _ h1,s _ _ h2,s _ _ h3⟩⟩
theorem FO.snoc{szs:List ((Nat×Nat)×(Nat×Nat))}{z:(Nat×Nat)×(Nat×Nat)}(h:FO H as szs)(h1:H a=some (.tup [.ref x,.ref y]))(h2:H x=some (.tup [.int (z.1.1:Int),.int (z.1.2:Int)]))(h3:H y=some (.tup [.int (z.2.1:Int),.int (z.2.2:Int)])):FO H (as++[a]) (szs++[z]):=by
 refine⟨by rw[MV,MV,h.1];rfl,λi b w c e=>?_⟩
 by_cases j:i<as.length
 ·rw[MU j]at c
  rw[MU (by rw[<- h.1];exact j)]at e;exact h.2 i b w c e
 ·have g:i=as.length:=by
   have:=(My.mp c).1;simp at this;omega
  subst g;rw[MT (MW _),Nat.sub_self]at c;rw[h.1,MT (MW _),Nat.sub_self]at e;cases c;cases e
  exact⟨x,y,h1,h2,h3⟩
def b8(d1 d2:Addr)(H H':Hp):Prop:=∀x o,x≠d1->x≠d2->H x=some o->H' x=some o
theorem b8.of(s:az H H'):b8 d1 d2 H H':=λx o _ _ e=>s x o e
theorem b8.trans(a:b8 d1 d2 H H1)(b:b8 d1 d2 H1 H2):b8 d1 d2 H H2:=λx o h1 h2 e=>b x o h1 h2 (a x o h1 h2 e)
theorem b8.put2:b8 d1 d2 H (ay H d2 o):=λx u _ h2 e=>by rw[ao h2];exact e
def Iw:HO->Prop | .dT _=>True | _=>False
def Kp(H H':Hp):Prop:=∀x o,¬ Iw o->H x=some o->H' x=some o
theorem Kp.of(s:az H H'):Kp H H':=λx o _ e=>s x o e
theorem Kp.trans(a:Kp H H1)(b:Kp H1 H2):Kp H H2:=λx o h e=>b x o h (a x o h e)
theorem Kp.put{H:Hp}{d:Addr}(hd:H d=some (.dT m)):Kp H (ay H d o):=λx u h e=>by
 rw[ao (λz=>by rw[z,hd]at e;cases e;exact h trivial)];exact e
theorem Kp.lst{H H':Hp}(s:Kp H H'){a:Addr}{xs:List V}(h:H a=some (.lst xs)):H' a=some (.lst xs):=s _ _ id h
theorem Kp.tup{H H':Hp}(s:Kp H H'){a:Addr}{xs:List V}(h:H a=some (.tup xs)):H' a=some (.tup xs):=s _ _ id h
theorem Kp.ins{H H':Hp}(s:Kp H H'){a C dx:Addr}{fs:List (Str×V)}(h:H a=some (.ins C dx fs)):H' a=some (.ins C dx fs):=s _ _ id h
theorem Kp.dK{H H':Hp}(s:Kp H H'){a:Addr}{fs:List (df×V)}(h:H a=some (.dK fs)):H' a=some (.dK fs):=s _ _ id h
theorem qN.kp{ps:List TR}(h:qN H l ps)(s:Kp H H'):qN H' l ps:=by
 obtain⟨bs,h1,h2,a⟩:=h;exact⟨bs,s.lst h1,h2,λi b p e c=>s.tup (a i b p e c)⟩
theorem cT.kp(h:cT R H as rs)(s:Kp H H'):cT R H' as rs:=by
 refine⟨h.1,λi b r c a=>?_⟩;obtain⟨d,l,h1,h2⟩:=h.2 i b r c a;exact⟨d,l,s.ins h1,s.lst h2⟩
theorem dB.kp{st:Nw}(g:dB R H C dx a sg st as rs)(s:Kp H H'):dB R H' C dx a sg st as rs:=by
 obtain⟨e,c,t,h1,h2,l,b,k⟩:=g;exact⟨e,c,t,s.ins h1,s.lst h2,l.kp s,⟨s.dK b.dict,λx j=>s.lst (b.list x j),b.apart⟩,k⟩
abbrev rW:Stmt:=ij 32
inductive iM(K:W.Frag)(vs:List V)(H:Hp)(Q:VK)(_E:XK):Prop
 |mk (a:Addr) (r c:Nat) (_:vs=[.ref a]) (_:aZ K H a [.int (r:Int),.int (c:Int)]) (_:r<=100) (_:c<=100) (_:Q (.int (fw r c)) H)
theorem Bg:aw ["size"] ["size"] (aj rW):=by walk_at "c"
theorem BE{f:Addr}(F:cF K "fewest" "fewest" rW f fd):↑aS 1 f fd ["size"] (iM K):=by
 have sc:=Bg;walk_at "f"
 ·obtain⟨a,r,c,rfl,b,hr3,hc3,q⟩:=h
  refine⟨_,(ai (aF (au (bc.m0 cX) (au (bc.m1 fA) (au (bc.m1 fA) ah (aE aC (al 0) ah (λ_ _=>rfl))) (aE aC (al 0) ah (λ_ _=>rfl))) ah))),?_⟩;ext;exact⟨_,b,_,rfl,_,rfl,_,b,_,rfl,_,rfl,.inl ⟨⋯,⋯⟩,q⟩
theorem kG{H:Hp}{Q:VK}(ha:H a=some (.tup xs))(hb:H b=some (.tup ys))(hx:xs≠[])(hy:ys≠[])(hz:xs.length+ys.length<=1000)(q:∀p,H p=none->Q (.ref p) (ay H p (.tup (xs++ys)))):Av K (.ref a) (.ref b) H Q:=
 ⟨a,b,xs,ys,rfl,rfl,aZ.of ha,aZ.of hb,hx,ak ⋯,λe=>q0N e hy,λ_=>q⟩
abbrev ir:Stmt:=ij 33
inductive gN(K:W.Frag)(vs:List V)(H:Hp)(Q:VK)(_E:XK):Prop
 |mk (a C dx lp l:Addr) (n o1 o2:Nw) (c left:Int) (szs:List ((Nat×Nat)×(Nat×Nat))) (rr cc:Nat) (_:vs=[.ref a,.ref l,.int left]) (_:H a=some (.ins C dx (Fm n c lp o1 o2))) (_:mK K C) (_:aq K C "one") (_:aq K C "other") (_:Kg H l szs) (_:szs.length<=10) (_:(∀z∈szs,wZ rr cc z)) (_:rr<=6) (_:cc<=6) (_:left<=15) (_:-100<=left) (_:∀l' H',H l'=none->fP H H' l' (bx o1 o2 szs left)->az H H'->Q (.ref l') H')
theorem qS:aw ["rule","sizes","left","found","one","other","first"] ["rule","sizes","left"] (aj ir):=by walk_at "c"
theorem fP.len{pss:List (List TR)}(h:fP H0 H l pss)(hx:H l=some (.lst xs)):xs.length=pss.length:=by
 obtain⟨as,h1,h2,_⟩:=h;rw[hx]at h1;cases h1;rw[MA,h2]
theorem sv{left:Int}{szs:List ((Nat×Nat)×(Nat×Nat))}{i:Nat}{z:(Nat×Nat)×(Nat×Nat)}(h:szs[i]?=some z):bx o1 o2 (szs.take (i+1)) left=bx o1 o2 (szs.take i) left++(nL (fw z.1.1 z.1.2) (left-fw z.2.1 z.2.2+1)).map λf=>[(o1,z.1.1,z.1.2,f),(o2,z.2.1,z.2.2,left-f)]:=by
 unfold bx;rw[q0D,h,List.flatMap_append];simp
theorem rP{f:Addr}(F:cF K "paired_rows" "paired_rows" ir f fd)(nb:NB mg)(yal:↑dU 1 "fewest" ["size"] (iM K)):↑aS 2 f fd ["rule","sizes","left"] (gN K):=by
 have sc:=qS;walk_at "f"
 ·obtain⟨a,C,dx,lp,l,n,o1,o2,c,left,u,rr,cc,rfl,ha,cl,n1,n2,⟨as,hl,c5,c4⟩,hsz,a8,rr6,cc6,a9,hlm,q⟩:=h
  refine⟨_,(af (q01 3 sc.nd (bK ac))
   (af (bP PassesOwn.never rfl (cK (al 1)) (fB (n:=2) rfl (aM (q02 4 sc.nd) (aM (q02 5 sc.nd) cY)))
   (ai (bP PassesOwn.never rfl (kX rfl nb.range (aa (aJ yal (hr.mono nofun) rfl ba (aa (al 4) ac)) (aa (au (bc.m0 bF) (au (bc.m0 cX) (al 2) (aJ yal (hr.mono nofun) rfl ba (aa (al 5) ac))) ah) ac))) (q02 6 sc.nd)
   (ai (bH (q03 (al 3) (aa (bK (aa (au cB (au cB (aG (aa (bJ (al 0) rfl) ac)) (al 4)) (aG (aa (al 6) ac))) (aa (au cB (au cB (aG (aa (bJ (al 0) rfl) ac)) (al 5)) (aG (aa (au (bc.m0 cX) (al 2) (al 6)) ac))) ac))) ac)))))))
   (ai (aF (al 3))))),?_⟩
  symm;refine⟨ak nofun,λI a0=>h1 _ _ ?_⟩;clear h1;have s1:=ae (o:=.lst []) a0;have e1:ay H I (.lst []) I=some (.lst []):=ad;generalize ay H I (.lst [])=H1 at s1 e1 ⊢;symm;refine⟨⟨_,aW.of (s1 _ _ hl)⟩,?_⟩;refine dO (xs:=as.map V.ref) (λi σ R=>az H R/\i<=as.length/\fP H R I (bx o1 o2 (u.take i) left)/\∃x y z,σ=[some (V.ref a),some (V.ref l),some (V.int left),some (V.ref I),x,y,z]) ⟨s1,MX _,fP.nil e1,_,_,_,rfl⟩ (λi σ R _ h=>aW.of (h.1 _ _ hl)) ?_ ?_
  ·rintro i x σ R hx ⟨sm,hi,hT,U,y1,z1,rfl⟩
   have Z:i<as.length:=by have:=(My.mp hx).1;rwa [MA]at this
   rw[MC,Mx Z]at hx;cases hx;have a3:u[i]?=some (u[i]'⋯):=Mx ⋯;have m:=a8 _ (MH (show i<u.length by omega));have Y:=sv (o1:=o1) (o2:=o2) (left:=left) a3;obtain⟨a2,a1,ht,M,L⟩:=c4 i as[i] _ (Mx Z) a3;generalize u[i]'⋯=z at m Y M L;obtain⟨⟨g,k⟩,B,D⟩:=z;have ma:=m.ma;have mb:=m.mb;have md:=m.md;have me:=m.me;have f1:=b6 m.a m.b;have f2:=b6 m.d m.e;simp only at ma mb md me Y M L f1 f2;have g1:fw g k<=1000:=by
    rw[iB];have:g*k<=6*6:=Nat.mul_le_mul ⋯ ⋯;omega
   have g2:fw B D<=1000:=by
    rw[iB];have:B*D<=6*6:=Nat.mul_le_mul ⋯ ⋯;omega
   ext;refine⟨_,aZ.of (sm _ _ ht),rfl,_,_,rfl,_,_,rfl,rfl,a2,g,k,rfl,aZ.of (sm _ _ M),⋯,⋯,a1,B,D,rfl,aZ.of (sm _ _ L),⋯,⋯,_,rfl,_,rfl,⋯,⋯,⋯,⋯,?_⟩;refine gF (λj σ R=>az H R/\fP H R I (bx o1 o2 (u.take i) left++((List.range j).map fun(j:Nat)=>fw g k+(j:Int)).map λf=>[(o1,g,k,f),(o2,B,D,left-f)])/\∃z,σ=[some (V.ref a),some (V.ref l),some (V.int left),some (V.ref I),some (V.ref a2),some (V.ref a1),z]) ⟨sm,by simpa using hT,_,rfl⟩ ?_ ?_
   ·rintro j σ H2 hj ⟨v,G,z,rfl⟩
    ext;obtain⟨xs,J⟩:∃xs,H2 I=some (.lst xs):=let ⟨as2,h,_⟩:=G;⟨_,h⟩
    have b0:=G.len J;refine⟨.inl ⟨rfl,_,aW.of J⟩,C,dx,_,v _ _ ha,cl,n1,_,rfl,ak nofun,λp1 c3=>?_⟩;have t1:=ae (o:=.tup [V.str (tx o1)]) c3;refine kG ad (t1 _ _ (v _ _ M)) (by simp) (by simp) (by simp) λp2 c0=>⟨ak nofun,λp3 a7=>?_⟩;have t2:=t1.trans (ae (o:=.tup ([V.str (tx o1)]++[V.int (g:Int),V.int (k:Int)])) c0);have e2:ay (ay H2 p1 (.tup [V.str (tx o1)])) p2 (.tup ([V.str (tx o1)]++[V.int (g:Int),V.int (k:Int)])) p2=some (.tup [V.str (tx o1),V.int (g:Int),V.int (k:Int)]):=ad;generalize ay (ay H2 p1 (.tup [V.str (tx o1)])) p2 (.tup ([V.str (tx o1)]++[V.int (g:Int),V.int (k:Int)]))=A2 at t2 e2 a7 ⊢;have t3:=ae (o:=.tup [V.int (fw g k+(j:Int))]) a7;refine kG (t3 _ _ e2) ad (by simp) (by simp) (by simp) λT b4=>?_;have t4:=(t2.trans t3).trans (ae (o:=.tup ([V.str (tx o1),V.int (g:Int),V.int (k:Int)]++[V.int (fw g k+(j:Int))])) b4);have e4:ay (ay A2 p3 (.tup [V.int (fw g k+(j:Int))])) T (.tup ([V.str (tx o1),V.int (g:Int),V.int (k:Int)]++[V.int (fw g k+(j:Int))])) T=some (.tup (b5 (o1,g,k,fw g k+(j:Int)))):=ad;generalize ay (ay A2 p3 (.tup [V.int (fw g k+(j:Int))])) T (.tup ([V.str (tx o1),V.int (g:Int),V.int (k:Int)]++[V.int (fw g k+(j:Int))]))=A4 at t4 e4 ⊢;have s4:=v.trans t4;refine⟨C,dx,_,s4 _ _ ha,cl,n2,_,rfl,ak nofun,λp5 b3=>?_⟩;have t5:=ae (o:=.tup [V.str (tx o2)]) b3;refine kG ad (t5 _ _ (s4 _ _ L)) (by simp) (by simp) (by simp) λp6 b2=>⟨ak nofun,λp7 a6=>?_⟩;have t6:=t5.trans (ae (o:=.tup ([V.str (tx o2)]++[V.int (B:Int),V.int (D:Int)])) b2);have e6:ay (ay A4 p5 (.tup [V.str (tx o2)])) p6 (.tup ([V.str (tx o2)]++[V.int (B:Int),V.int (D:Int)])) p6=some (.tup [V.str (tx o2),V.int (B:Int),V.int (D:Int)]):=ad;generalize ay (ay A4 p5 (.tup [V.str (tx o2)])) p6 (.tup ([V.str (tx o2)]++[V.int (B:Int),V.int (D:Int)]))=A6 at t6 e6 a6 ⊢;have t7:=ae (o:=.tup [V.int (left-(fw g k+(j:Int)))]) a6;refine kG (t7 _ _ e6) ad (by simp) (by simp) (by simp) λS b1=>?_;have t8:=(t6.trans t7).trans (ae (o:=.tup ([V.str (tx o2),V.int (B:Int),V.int (D:Int)]++[V.int (left-(fw g k+(j:Int)))])) b1);have e8:ay (ay A6 p7 (.tup [V.int (left-(fw g k+(j:Int)))])) S (.tup ([V.str (tx o2),V.int (B:Int),V.int (D:Int)]++[V.int (left-(fw g k+(j:Int)))])) S=some (.tup (b5 (o2,B,D,left-(fw g k+(j:Int))))):=ad;generalize ay (ay A6 p7 (.tup [V.int (left-(fw g k+(j:Int)))])) S (.tup ([V.str (tx o2),V.int (B:Int),V.int (D:Int)]++[V.int (left-(fw g k+(j:Int)))]))=A8 at t8 e8 ⊢;refine⟨ak nofun,λp9 O=>?_⟩;have t9:=ae (o:=.lst [V.ref T,V.ref S]) O;have e9:ay A8 p9 (.lst [V.ref T,V.ref S]) p9=some (.lst [V.ref T,V.ref S]):=ad;have n9:p9≠I:=λe=>by rw[e,t8 _ _ (t4 _ _ J)]at O;cases O
    generalize ay A8 p9 (.lst [V.ref T,V.ref S])=A9 at t9 e9 ⊢;have s9:=(t4.trans t8).trans t9;have a4:=s9 _ _ J;have a5:qN A9 p9 [(o1,g,k,fw g k+(j:Int)),(o2,B,D,left-(fw g k+(j:Int)))]:=⟨[T,S],e9,rfl,λi b p U x2=>by
     match i,U,x2 with
     |0,U,x2=>cases U;cases x2;exact(t8.trans t9) _ _ e4
     |1,U,x2=>cases U;cases x2;exact t9 _ _ e8⟩
    have hlen:(bx o1 o2 (u.take i) left).length<=150:=M6 (gv (r:=rr) (c:=cc) a9 _ λz hz=>a8 z (q0F hz)) (by rw[Nb];omega);refine⟨_,a4,?_,?_⟩
    ·rw[b0,MV,MA,MA,q0G];exact bq ⋯
    ·refine⟨gC (v.trans s9) a0,?_⟩
     rw[q0J,ML,ML,<- M_];exact(G.up s9).app a4 a5 (v.free (t4.free (t8.free O))) n9
   ·rintro σ H2 ⟨v,G,z,rfl⟩
    refine⟨v,Z,?_,_,_,_,rfl⟩;rw[Y];exact G
  ·rintro σ R ⟨sm,_,hT,U,y1,z1,rfl⟩
   refine h1 _ _ ?_;ext;rw[MA,c5,Na]at hT;exact q I R a0 hT sm
inductive dS(C:Addr)(t:Nat)(vs:List V)(H:Hp)(Q:VK)(_E:XK):Prop
 |mk (a dx lp:Addr) (v:RV) (r c:Nat) (k:Int) (_:vs=[.ref a,.int (r:Int),.int (c:Int),.int k]) (_:H a=some (.ins C dx (xB t lp v))) (_:1<=r) (_:r<=6) (_:1<=c) (_:c<=6) (_:k<=16) (_:1<=k) (_:1<=v.c) (_:v.c<=9) (_:0<=v.t) (_:∀l H',H l=none->fP H H' l (cG (t,v) r c k)->az H H'->Q (.ref l) H')
abbrev eZ:Stmt:=fu 28 5
theorem wk:aw ["self","rows","columns","cost"] ["self","rows","columns","cost"] (aj eZ):=by walk_at "c"
theorem qN.nil{H:Hp}(h:H l=some (.lst [])):qN H l []:=⟨[],h,rfl,λi a ps e=>by simp at e⟩
theorem fP.one{H0 H:Hp}{ps:List TR}(h:H l=some (.lst [.ref a]))(ha:qN H a ps)(hf:H0 a=none)(hne:a≠l):fP H0 H l [ps]:=⟨[a],h,rfl,λi b qs e1 e2=>by
 match i,e1,e2 with
 |0,e1,e2=>cases e1;cases e2;exact⟨⟨hf,hne⟩,ha⟩⟩
theorem IT{a b c d e f:Int}:jV [V.int a,V.int b,V.int c] [V.int d,V.int e,V.int f]=decide (a=d/\b=e/\c=f):=by
 have j:jV [V.int a,V.int b,V.int c] [V.int d,V.int e,V.int f]=(((a==d)&&((b==e)&&((c==f)&&true)))&&true):=rfl;rw[j]
 by_cases h1:a=d<;>by_cases h2:b=e<;>by_cases g:c=f<;>simp[h1,h2,g]
theorem vK{f:Addr}(F:cF K "part_rows" "CellRule.part_rows" eZ f fd)(nb:NB mg)(cl:mK K C)(na:aq K C "cost"):↑aS 1 f fd ["self","rows","columns","cost"] (dS C 0):=by
 have sc:=wk;walk_at "f"
 ·obtain⟨a,L,lp,v,r,c,k,rfl,J,r1,r6,c1,c6,k16,k1,vc,vc9,vt,q⟩:=h
  have I:=hr.units;refine⟨_,(ai (aF (wQ (aK (D3 I) (aG (aa (al 1) (aa (al 2) (aa (al 3) ac)))) (aG (bj (bj (aa (bJ (al 0) rfl) ac)))) (aN _)) (bK (aa (bK ac) ac)) (bK ac)))),?_⟩;ext;refine⟨ak nofun,λp B=>⟨C,L,_,ae B _ _ J,cl,na,_,rfl,ak nofun,λG l=>⟨_,aZ.of (ae l _ _ ad),_,aZ.of ad,rfl,rfl,?_⟩⟩⟩;have j:=(ae (o:=.tup [V.int (r:Int),V.int (c:Int),V.int k]) B).trans (ae (o:=.tup [V.int 1,V.int 1,V.int v.c]) l);generalize ay (ay H p (.tup [V.int (r:Int),V.int (c:Int),V.int k])) G (.tup [V.int 1,V.int 1,V.int v.c])=H2 at j ⊢;rw[IT];have n:cG (0,v) r c k=if r=1/\c=1/\k=v.c then[[]] else[]:=rfl
  rw[n]at q
  by_cases D:r=1/\c=1/\k=v.c
  ·rw[q07 (by simp;omega)]
   rw[q07 D]at q;refine⟨MX _,λm b=>⟨ak nofun,λy g=>?_⟩⟩;have x:=ae (o:=.lst []) b;have u:=ae (o:=.lst [V.ref m]) g;have ne:m≠y:=λe=>by rw[<- e,ad]at g;cases g
   exact q y _ (j.free (x.free g)) (fP.one ad (qN.nil (u _ _ ad)) (j.free b) ne) ((j.trans x).trans u)
  ·rw[q06 (by simp;omega)]
   rw[q06 D]at q;exact⟨MX _,λm b=>q m _ (j.free b) (fP.nil ad) (j.trans (ae b))⟩
abbrev dn:Stmt:=fu 29 5
theorem qL:aw ["self","rows","columns","cost","sizes"] ["self","rows","columns","cost"] (aj dn):=by walk_at "c"
theorem Bq{c i:Nat}(h:i<c-1):(gG r c)[i]?=some ((r,1+i),(r,c-(1+i))):=by
 unfold gG;rw[MC,List.getElem?_range h];rfl
theorem qA{f:Addr}(F:cF K "part_rows" "BesideRule.part_rows" dn f fd)(nb:NB mg)(cl:mK K C)(na:aq K C "cost"/\aq K C "one"/\aq K C "other")(yaG:↑dU 2 "paired_rows" ["rule","sizes","left"] (gN K)):↑aS 3 f fd ["self","rows","columns","cost"] (dS C 1):=by
 have sc:=qL;walk_at "f"
 ·obtain⟨a,U,lp,v,r,c,k,rfl,S,r1,r6,c1,c6,k16,k1,vc,vc9,vt,q⟩:=h
  have hu:=hr.units;refine⟨_,(af (jp (i:=4) ["at"] [1,2] sc.nd rfl (Or.inl rfl) rfl  rfl (bE.of (by kernel_rfl)) (by kernel_rfl) (kX rfl nb.range (bj (aa (al 2) ac)))
    (λ_ _ _ _=>(aB (i:=0) (by show(["at","rows","columns"]:List Str).Nodup;decide +kernel) rfl (Or.inl rfl))) (λ_ _ _ _=>ce) (λ_ _ _ _=>(aG (aa (aG (aa (al 1) (aa (al 0) ac))) (aa (aG (aa (al 1) (aa (au (bc.m0 cX) (al 2) (al 0)) ac))) ac)))))
   (ai (aF (aJ yaG (hr.mono nofun) rfl ba (aa (al 0) (aa (al 4) (aa (au (bc.m0 cX) (al 3) (bJ (al 0) rfl)) ac))))))),?_⟩
  symm;refine⟨⋯,⋯,⋯,?_⟩;have en:((c:Int)-1).toNat=c-1:=by omega
  rw[en];refine fD (λi j σ m=>az H m/\i<=c-1/\(∃g:List Addr,j=g.map V.ref/\FO m g ((gG r c).take i))/\∃z,σ=[z,some (V.int (r:Int)),some (V.int (c:Int))]) ⟨λ_ _ e=>e,MX _,⟨[],rfl,rfl,λi a z e=>by simp at e⟩,_,rfl⟩ ?_ (λi j σ m h=>h.2.1) ?_ ?_
  ·rintro i j σ m ⟨_,L,⟨g,rfl,p⟩,_⟩
   rw[MA,p.1,Nb];exact bq ⋯
  ·rintro i j σ m L ⟨sm,_,⟨g,rfl,p⟩,z,rfl⟩
   ext;refine⟨ak nofun,λR I=>⟨ak nofun,λO G=>⟨ak nofun,λp3 D=>?_⟩⟩⟩;have Z:=ae (o:=.tup [V.int (r:Int),V.int (1+(i:Int))]) I;have M:=ae (o:=.tup [V.int (r:Int),V.int ((c:Int)-(1+(i:Int)))]) G;have u:=ae (o:=.tup [V.ref R,V.ref O]) D;have t:=(Z.trans M).trans u;refine⟨sm.trans t,L,g++[p3],by rw[ML];rfl,?_⟩;rw[q0D,Bq L];exact(p.up t).snoc (x:=R) (y:=O) ad ((M.trans u) _ _ (by rw[ad];rw[show(1+(i:Int))=((1+i:Nat):Int) by push_cast;rfl])) (u _ _ (by rw[ad];rw[show((c:Int)-(1+(i:Int)))=((c-(1+i):Nat):Int) by omega]))
  rintro j σ Y ⟨s1,_,⟨g,rfl,p⟩,z,rfl⟩ l hl;refine h1 _ _ ?_;clear h1;have B:=ae (o:=.lst (g.map V.ref)) hl;have T:ay Y l (.lst (g.map V.ref)) l=some (.lst (g.map V.ref)):=ad;generalize ay Y l (.lst (g.map V.ref))=H2 at B T ⊢;have b:=s1.trans B;rw[q0E (by rw[iU];omega)]at p;ext;refine⟨C,U,_,b _ _ S,cl,na.1,_,rfl,_,rfl,a,C,U,lp,l,v.n,v.o1,v.o2,v.c,k-v.c,gG r c,r,c,rfl,b _ _ S,cl,na.2.1,na.2.2,⟨g,T,p.up B⟩,by rw[iU];omega,λz hz=>kR r1 hz,r6,c6,⋯,⋯,λl' m J hT s3=>q l' m (b.free J) (hT.old b) (b.trans s3)⟩
abbrev dI:Stmt:=fu 30 5
theorem sY:aw ["self","rows","columns","cost","sizes"] ["self","rows","columns","cost"] (aj dI):=by walk_at "c"
theorem B_{r i:Nat}(h:i<r-1):(gR r c)[i]?=some ((1+i,c),(r-(1+i),c)):=by
 unfold gR;rw[MC,List.getElem?_range h];rfl
theorem sO{f:Addr}(F:cF K "part_rows" "AboveRule.part_rows" dI f fd)(nb:NB mg)(cl:mK K C)(na:aq K C "cost"/\aq K C "one"/\aq K C "other")(yaG:↑dU 2 "paired_rows" ["rule","sizes","left"] (gN K)):↑aS 3 f fd ["self","rows","columns","cost"] (dS C 2):=by
 have sc:=sY;walk_at "f"
 ·obtain⟨a,U,lp,v,r,c,k,rfl,S,r1,r6,c1,c6,k16,k1,vc,vc9,vt,q⟩:=h
  have hu:=hr.units;refine⟨_,(af (jp (i:=4) ["at"] [2,1] sc.nd rfl (Or.inl rfl) rfl  rfl (bE.of (by kernel_rfl)) (by kernel_rfl) (kX rfl nb.range (bj (aa (al 1) ac)))
    (λ_ _ _ _=>(aB (i:=0) (by show(["at","columns","rows"]:List Str).Nodup;decide +kernel) rfl (Or.inl rfl))) (λ_ _ _ _=>ce) (λ_ _ _ _=>(aG (aa (aG (aa (al 0) (aa (al 1) ac))) (aa (aG (aa (au (bc.m0 cX) (al 2) (al 0)) (aa (al 1) ac))) ac)))))
   (ai (aF (aJ yaG (hr.mono nofun) rfl ba (aa (al 0) (aa (al 4) (aa (au (bc.m0 cX) (al 3) (bJ (al 0) rfl)) ac))))))),?_⟩
  symm;refine⟨⋯,⋯,⋯,?_⟩;have en:((r:Int)-1).toNat=r-1:=by omega
  rw[en];refine fD (λi j σ m=>az H m/\i<=r-1/\(∃g:List Addr,j=g.map V.ref/\FO m g ((gR r c).take i))/\∃z,σ=[z,some (V.int (c:Int)),some (V.int (r:Int))]) ⟨λ_ _ e=>e,MX _,⟨[],rfl,rfl,λi a z e=>by simp at e⟩,_,rfl⟩ ?_ (λi j σ m h=>h.2.1) ?_ ?_
  ·rintro i j σ m ⟨_,L,⟨g,rfl,p⟩,_⟩
   rw[MA,p.1,Nb];exact bq ⋯
  ·rintro i j σ m L ⟨sm,_,⟨g,rfl,p⟩,z,rfl⟩
   ext;refine⟨ak nofun,λR I=>⟨ak nofun,λO G=>⟨ak nofun,λp3 D=>?_⟩⟩⟩;have Z:=ae (o:=.tup [V.int (1+(i:Int)),V.int (c:Int)]) I;have M:=ae (o:=.tup [V.int ((r:Int)-(1+(i:Int))),V.int (c:Int)]) G;have u:=ae (o:=.tup [V.ref R,V.ref O]) D;have t:=(Z.trans M).trans u;refine⟨sm.trans t,L,g++[p3],by rw[ML];rfl,?_⟩;rw[q0D,B_ L];exact(p.up t).snoc (x:=R) (y:=O) ad ((M.trans u) _ _ (by rw[ad];rw[show(1+(i:Int))=((1+i:Nat):Int) by push_cast;rfl])) (u _ _ (by rw[ad];rw[show((r:Int)-(1+(i:Int)))=((r-(1+i):Nat):Int) by omega]))
  rintro j σ Y ⟨s1,_,⟨g,rfl,p⟩,z,rfl⟩ l hl;refine h1 _ _ ?_;clear h1;have B:=ae (o:=.lst (g.map V.ref)) hl;have T:ay Y l (.lst (g.map V.ref)) l=some (.lst (g.map V.ref)):=ad;generalize ay Y l (.lst (g.map V.ref))=H2 at B T ⊢;have b:=s1.trans B;rw[q0E (by rw[iX];omega)]at p;ext;refine⟨C,U,_,b _ _ S,cl,na.1,_,rfl,_,rfl,a,C,U,lp,l,v.n,v.o1,v.o2,v.c,k-v.c,gR r c,r,c,rfl,b _ _ S,cl,na.2.1,na.2.2,⟨g,T,p.up B⟩,by rw[iX];omega,λz hz=>kI c1 hz,r6,c6,⋯,⋯,λl' m J hT s3=>q l' m (b.free J) (hT.old b) (b.trans s3)⟩
abbrev eR:Stmt:=fu 31 5
theorem uY:aw ["self","rows","columns","cost","size"] ["self","rows","columns","cost"] (aj eR):=by walk_at "c"
theorem v6{f:Addr}(F:cF K "part_rows" "TurnRule.part_rows" eR f fd)(nb:NB mg)(cl:mK K C)(na:aq K C "cost"/\aq K C "part"/\aq K C "turning"):↑aS 1 f fd ["self","rows","columns","cost"] (dS C 3):=by
 have sc:=uY;walk_at "f"
 ·obtain⟨a,dx,lp,v,r,c,k,rfl,Z,r1,r6,c1,c6,k16,k1,vc,vc9,vt,q⟩:=h
  have hu:=hr.units;refine⟨_,(af (q01 4 sc.nd (wQ (aK fq (au (bc.m1 br) (bJ (al 0) rfl) ah) ah (aN _)) (aG (aa (al 2) (aa (al 1) ac))) (aG (aa (al 1) (aa (al 2) ac)))))
   (ai (aF (bK (aa (bK (aa (au cB (au cB (aG (aa (bJ (al 0) rfl) ac)) (al 4)) (aG (aa (au (bc.m0 cX) (al 3) (bJ (al 0) rfl)) ac))) ac)) ac))))),?_⟩
  symm;have m:∀(x y:Nat) (p:Addr) (j:Hp),(∃p:TR,cG (3,v) r c k=[[p]]/\p=(v.o1,x,y,k-v.c))->az H j->j p=some (.tup [V.int (x:Int),V.int (y:Int)])->N1 [some (V.ref a),some (V.int (r:Int)),some (V.int (c:Int)),some (V.int k),some (V.ref p)] j:=by
   rintro x y p j ⟨_,ep,rfl⟩ M e1;refine h1 _ _ ?_;ext;refine⟨C,dx,_,M _ _ Z,cl,na.2.1,_,rfl,ak nofun,λp1 U=>?_⟩;have t1:=ae (o:=.tup [V.str (tx v.o1)]) U;refine kG ad (t1 _ _ e1) (by simp) (by simp) (by simp) λO T=>?_;have J:=t1.trans (ae (o:=.tup ([V.str (tx v.o1)]++[V.int (x:Int),V.int (y:Int)])) T);have e2:ay (ay j p1 (.tup [V.str (tx v.o1)])) O (.tup ([V.str (tx v.o1)]++[V.int (x:Int),V.int (y:Int)])) O=some (.tup [V.str (tx v.o1),V.int (x:Int),V.int (y:Int)]):=ad;generalize ay (ay j p1 (.tup [V.str (tx v.o1)])) O (.tup ([V.str (tx v.o1)]++[V.int (x:Int),V.int (y:Int)]))=A2 at J e2 ⊢;refine⟨C,dx,_,(M.trans J) _ _ Z,cl,na.1,_,rfl,_,rfl,ak nofun,λp3 S=>?_⟩;have t3:=ae (o:=.tup [V.int (k-v.c)]) S;refine kG (t3 _ _ e2) ad (by simp) (by simp) (by simp) λl R=>?_;have t4:=(J.trans t3).trans (ae (o:=.tup ([V.str (tx v.o1),V.int (x:Int),V.int (y:Int)]++[V.int (k-v.c)])) R);have e4:ay (ay A2 p3 (.tup [V.int (k-v.c)])) l (.tup ([V.str (tx v.o1),V.int (x:Int),V.int (y:Int)]++[V.int (k-v.c)])) l=some (.tup (b5 (v.o1,x,y,k-v.c))):=ad;generalize ay (ay A2 p3 (.tup [V.int (k-v.c)])) l (.tup ([V.str (tx v.o1),V.int (x:Int),V.int (y:Int)]++[V.int (k-v.c)]))=A4 at t4 e4 ⊢;refine⟨ak nofun,λp5 n=>⟨ak nofun,λp6 g=>?_⟩⟩;have I:=ae (o:=.lst [V.ref l]) n;have G:=ae (o:=.lst [V.ref p5]) g;have ne:p5≠p6:=λe=>by rw[<- e,ad]at g;cases g
   have L:=M.trans t4;rw[ep]at q;refine q p6 _ (L.free (I.free g)) (fP.one ad ⟨[l],G _ _ ad,rfl,λi b z D B=>?_⟩ (L.free n) ne) ((L.trans I).trans G)
   match i,D,B with
   |0,D,B=>cases D;cases B;exact(I.trans G) _ _ e4
  refine⟨C,dx,_,Z,cl,na.2.2,_,rfl,_,rfl,?_⟩
  by_cases u:v.t%2=1
  ·rw[q07 u]
   exact⟨ak nofun,λp Y=>m c r p _ ⟨_,rfl,by simp[u]⟩ (ae Y) ad⟩
  ·rw[q06 u]
   exact⟨ak nofun,λp Y=>m r c p _ ⟨_,rfl,by simp[u]⟩ (ae Y) ad⟩
def lL(R:RC):List (Addr×Sp):=[(R.cc,dS R.cc 0),(R.cb,dS R.cb 1),(R.ca,dS R.ca 2),(R.ct,dS R.ct 3)]
theorem DE{R:RC}{t a}{v:RV}{r c:Nat}{k:Int}{Q:VK}{E:XK}(h4:t<4)(ra:jt R H t a v)(r1:1<=r)(r6:r<=6)(c1:1<=c)(c6:c<=6)(k16:k<=16)(k1:1<=k)(vc:1<=v.c)(vc9:v.c<=9)(vt:0<=v.t)(q:∀l H',H l=none->fP H H' l (cG (t,v) r c k)->az H H'->Q (.ref l) H') :
  ∃o∈lL R,∃dx fs,H a=some (.ins o.1 dx fs)/\fs.lookup ("part_rows":Str)=none/\o.2 [.ref a,.int (r:Int),.int (c:Int),.int k] H Q E:=by
 obtain⟨dx,l,h1,_⟩:=ra;have:t=0\/t=1\/t=2\/t=3:=by omega
 rcases this with rfl | rfl | rfl | rfl
 ·exact⟨(R.cc,dS R.cc 0),by simp[lL],dx,_,h1,rfl,a,dx,l,v,r,c,k,rfl,h1,r1,r6,c1,c6,k16,k1,vc,vc9,vt,q⟩
 ·exact⟨(R.cb,dS R.cb 1),by simp[lL],dx,_,h1,rfl,a,dx,l,v,r,c,k,rfl,h1,r1,r6,c1,c6,k16,k1,vc,vc9,vt,q⟩
 ·exact⟨(R.ca,dS R.ca 2),by simp[lL],dx,_,h1,rfl,a,dx,l,v,r,c,k,rfl,h1,r1,r6,c1,c6,k16,k1,vc,vc9,vt,q⟩
 ·exact⟨(R.ct,dS R.ct 3),by simp[lL],dx,_,h1,rfl,a,dx,l,v,r,c,k,rfl,h1,r1,r6,c1,c6,k16,k1,vc,vc9,vt,q⟩
inductive Gr(rs:Yaa):Dt->List Nat->bN->Int->Nat->Prop
 |cell {n:Nat} {v:RV}:rs[n]?=some (0,v)->Gr rs (.tup [.int (n:Int)]) v.n [v.sg] v.c 1
 |turn {n:Nat} {v:RV} {d:Dt} {p:bN} {c:Int} {k:Nat}:rs[n]?=some (3,v)->Gr rs d v.o1 p c k->Gr rs (.tup [.int (n:Int),d]) v.n (turned p v.t.toNat) (v.c+c) (k+1)
 |pair {n kd:Nat} {v:RV} {d1 d2:Dt} {p1 p2 p:bN} {c1 c2:Int} {k1 k2:Nat}:(kd=1\/kd=2)->rs[n]?=some (kd,v)->Gr rs d1 v.o1 p1 c1 k1->Gr rs d2 v.o2 p2 c2 k2->iH kd v [p1,p2]=some p->Gr rs (.tup [.int (n:Int),d1,d2]) v.n p (v.c+(c1+c2)) (max k1 k2+1)
theorem xM{k:Nat}{p:bN}{r c:Nat}(hk:k=1\/k=2)(h1:fV p1 r c)(h2:fV p2 r' c')(m:iH k v [p1,p2]=some p):∃r c,fV p r c:=by
 have l:=bT h1.rc h1.r0;have j:=bT h2.rc h2.r0;have e:=h1.rc.1;have b:=h2.rc.1;rcases hk with rfl | rfl
 ·have a:(if p1.length=p2.length/\(p1.headD []).length+(p2.headD []).length<=6 then some (put2 p1 p2) else none)=some p:=m
  by_cases c0:p1.length=p2.length/\(p1.headD []).length+(p2.headD []).length<=6
  ·rw[q07 c0]at a
   cases a;rw[e,b,l,j]at c0;refine⟨r,c+c',⟨?_,h1.r0,h1.r6,by have:=h1.c0;omega,c0.2⟩⟩;refine⟨by unfold put2;rw[MA,q0K,e,b];omega,λx g=>?_⟩;unfold put2 at g;obtain⟨y,n,rfl⟩:=Ng.mp g;have:=List.of_mem_zip n;rw[MV,h1.rc.2 _ this.1,h2.rc.2 _ this.2]
  ·rw[q06 c0]at a;cases a
 ·have a:(if(p1.headD []).length=(p2.headD []).length/\p1.length+p2.length<=6 then some (p1++p2) else none)=some p:=m
  by_cases c0:(p1.headD []).length=(p2.headD []).length/\p1.length+p2.length<=6
  ·rw[q07 c0]at a
   cases a;rw[e,b,l,j]at c0;refine⟨r+r',c,⟨⟨by rw[MV,e,b],λx g=>?_⟩,by have:=h1.r0;omega,c0.2,h1.c0,h1.c6⟩⟩;rcases MM.mp g with h | h
   ·exact h1.rc.2 _ h
   ·rw[c0.1];exact h2.rc.2 _ h
  ·rw[q06 c0]at a;cases a
theorem tN{r c:Nat}(h:fV p r c)(t:Nat):∃r c,fV (turned p t) r c:=by
 have a:fE (if 4<=t then mirror p else p) r c:=by split;exact hJ h.rc;exact h.rc
 have:=dl (t%4) a h.r0 h.c0;unfold turned
 by_cases e:t%4%2=0
 ·rw[q07 e,q07 e]at this;exact⟨r,c,this,h.r0,h.r6,h.c0,h.c6⟩
 ·rw[q06 e,q06 e]at this;exact⟨c,r,this,h.c0,h.c6,h.r0,h.r6⟩
theorem Gr.pic6{rs:Yaa}(hg:∀r∈rs,fj r){d:Dt}{nm:Nw}{p:bN}{c:Int}{k:Nat}(g:Gr rs d nm p c k):∃r c,fV p r c:=by
 induction g with
 | @cell n v e=>
  have:=nR (hg _ (MD e)).good.sg;exact⟨1,1,⟨rfl,λx a=>by rw[MB.mp a];exact this⟩,nofun,nofun,nofun,nofun⟩
 |turn e _ ih=>obtain⟨r,c,h⟩:=ih;exact tN h _
 |pair h e _ _ m ih1 ih2=>obtain⟨r,c,h1⟩:=ih1;obtain⟨r',c',h2⟩:=ih2;exact xM h h1 h2 m
theorem yJ{H:Hp}{lp:Addr}{as:NA}(h1:H l=some (.lst (as.map V.ref)))(h2:H lp=some (.lst (aH p)))(h3:p≠[]):lp≠l:=λe=>by
 rw[e,h1]at h2;have h4:=HO.lst.inj (q0P h2);cases p with
 |nil=>exact h3 rfl
 |cons r p=>
  cases as with
  |nil=>exact nomatch h4
  |cons a as=>have:=(List.cons.inj h4).1;cases this
theorem ia(s:az H H')(h:H' a=none):H a=none:=by
 cases e:H a with
 |none=>rfl
 |some o=>rw[s _ _ e]at h;cases h
theorem dh{H:Hp}{Q:VK}(ha:H a=some (.tup xs))(hb:H b=some (.tup ys))(hx:xs≠[])(hz:xs.length+ys.length<=1000)(q:∀p H',H' p=some (.tup (xs++ys))->az H H'->Q (.ref p) H'):Av K (.ref a) (.ref b) H Q:=
 ⟨a,b,xs,ys,rfl,rfl,aZ.of ha,aZ.of hb,hx,ak ⋯,λe=>q a H (by rw[e,M9];exact ha) (az.refl _),λ_ p hp=>q p _ ad (ae hp)⟩
theorem b9{c:Prop}[Decidable c]{A B:Prop}(hA:c->A)(hB:¬ c->B):if c then A else B:=by
 by_cases h:c
 ·rw[q07 h];exact hA h
 ·rw[q06 h];exact hB h
inductive aQ where
 |n0:Int->aQ
 |n1:Int->aQ->aQ
 |n2:Int->aQ->aQ->aQ
def aQ.i:aQ->Int
 | .n0 i=>i
 | .n1 i _=>i
 | .n2 i _ _=>i
def aQ.ps:aQ->List aQ
 | .n0 _=>[]
 | .n1 _ a=>[a]
 | .n2 _ a b=>[a,b]
def aQ.d:aQ->Dt
 | .n0 i=>.tup [.int i]
 | .n1 i a=>.tup [.int i,a.d]
 | .n2 i a b=>.tup [.int i,a.d,b.d]
def aQ.cnt:aQ->Nat
 | .n0 _=>1
 | .n1 _ a=>a.cnt+1
 | .n2 _ a b=>a.cnt+b.cnt+1
def aQ.dep:aQ->Nat
 | .n0 _=>1
 | .n1 _ a=>a.dep+1
 | .n2 _ a b=>max a.dep b.dep+1
theorem aQ.d_eq(t:aQ):t.d=.tup (.int t.i::t.ps.map aQ.d):=by cases t<;>rfl
theorem aQ.val{t:aQ}(h:cE H t.d v):∃a vs,v=.ref a/\H a=some (.tup (.int t.i::vs))/\aP H (t.ps.map aQ.d) vs:=by
 rw[t.d_eq]at h;unfold cE at h;obtain⟨a,xs,rfl,g,c⟩:=h;obtain⟨x0,j,rfl,b,e⟩:=c.uncons;unfold cE at b;subst b;exact⟨a,j,rfl,g,e⟩
theorem aQ.of{H:Hp}{vs:List V}{t:aQ}(h:H a=some (.tup (.int t.i::vs)))(k:aP H (t.ps.map aQ.d) vs):cE H t.d (.ref a):=by
 rw[t.d_eq];exact cE.node h k
theorem aQ.lt{s t:aQ}(h:s∈t.ps):s.dep<t.dep/\s.cnt<t.cnt:=by
 cases t with
 |n0 i=>exact nomatch h
 |n1 i a=>rw[MB.mp h];simp only[aQ.dep,aQ.cnt];omega
 |n2 i a b=>
  rcases MO.mp h with rfl | h
  ·simp only[aQ.dep,aQ.cnt];omega
  ·rw[MB.mp h];simp only[aQ.dep,aQ.cnt];omega
theorem aQ.plen(t:aQ):t.ps.length<=2:=by cases t<;>simp[aQ.ps]
theorem aQ.cnt1(t:aQ):1<=t.cnt:=by cases t<;>simp[aQ.cnt]
theorem aQ.dep1(t:aQ):1<=t.dep:=by cases t<;>simp[aQ.dep]
def iS(i:Int):List aQ->aQ
 | []=>.n0 i
 | [a]=>.n1 i a
 |a::b::_=>.n2 i a b
theorem wV(i:Int)(ds:List aQ):(iS i ds).i=i:=by
 match ds with
 | []=>rfl
 | [a]=>rfl
 |a::b::_=>rfl
theorem vg(i:Int){ds:List aQ}(h:ds.length<=2):(iS i ds).ps=ds:=by
 match ds,h with
 | [],_=>rfl
 | [a],_=>rfl
 | [a,b],_=>rfl
 |a::b::c::_,h=>simp at h
theorem Ay(t:aQ):iS t.i t.ps=t:=by cases t<;>rfl
def Sub:List Nat->aQ->Option aQ
 | [],t=>some t
 |k::pl,t=>match t.ps[k]? with
  |some s=>Sub pl s
  |none=>none
theorem FV{t s:aQ}{k:Nat}(h:t.ps[k]?=some s):(iS t.i (t.ps.set k u)).cnt+s.cnt=t.cnt+u.cnt/\(iS t.i (t.ps.set k u)).dep<=max t.dep (u.dep+1):=by
 cases t with
 |n0 i=>simp[aQ.ps]at h
 |n1 i a=>
  match k,h with
  |0,h=>cases h;simp only[aQ.ps,aQ.i,List.set_cons_zero,iS,aQ.cnt,aQ.dep];omega
  |k+1,h=>simp[aQ.ps]at h
 |n2 i a b=>
  match k,h with
  |0,h=>cases h;simp only[aQ.ps,aQ.i,List.set_cons_zero,iS,aQ.cnt,aQ.dep];omega
  |1,h=>cases h;simp only[aQ.ps,aQ.i,List.set_cons_zero,List.set_cons_succ,iS,aQ.cnt,aQ.dep];omega
  |k+2,h=>simp[aQ.ps]at h
theorem Gr.tre{d:Dt}{nm:Nw}(g:Gr rs d nm p c k):∃t:aQ,d=t.d/\t.dep<=k:=by
 induction g with
 | @cell n v e=>exact⟨.n0 n,rfl,MW _⟩
 | @turn n v d p c k e g ih=>
  obtain⟨t,rfl,h⟩:=ih;exact⟨.n1 n t,rfl,by simp only[aQ.dep];omega⟩
 | @pair n kd v d1 d2 p1 p2 p c1 c2 k1 k2 hk e g1 g2 m ih1 ih2=>
  obtain⟨t,rfl,h⟩:=ih1;obtain⟨u,rfl,h'⟩:=ih2;exact⟨.n2 n t u,rfl,by simp only[aQ.dep];omega⟩
theorem aQ.d_inj:∀{s t:aQ},s.d=t.d->s=t
 | .n0 i,.n0 j,h=>by simp only[aQ.d,Dt.tup.injEq,List.cons.injEq,Dt.int.injEq,and_true]at h;rw[h]
 | .n1 i a,.n1 j b,h=>by simp only[aQ.d,Dt.tup.injEq,List.cons.injEq,Dt.int.injEq,and_true]at h;rw[h.1,aQ.d_inj h.2]
 | .n2 i a b,.n2 j a' b',h=>by simp only[aQ.d,Dt.tup.injEq,List.cons.injEq,Dt.int.injEq,and_true]at h;rw[h.1,aQ.d_inj h.2.1,aQ.d_inj h.2.2]
 | .n0 i,.n1 j b,h=>by simp[aQ.d]at h
 | .n0 i,.n2 j a b,h=>by simp[aQ.d]at h
 | .n1 i b,.n0 j,h=>by simp[aQ.d]at h
 | .n1 i c,.n2 j a b,h=>by simp[aQ.d]at h
 | .n2 j a b,.n0 i,h=>by simp[aQ.d]at h
 | .n2 j a b,.n1 i c,h=>by simp[aQ.d]at h
def AG(pl:Nw):List V:=pl.map fun(k:Nat)=>V.int (k:Int)
theorem wE{α:Type}(x:α)(xs:List α):gZ (x::xs) 0=some x:=show gZ (x::xs) ((0:Nat):Int)=some x from aU rfl
theorem kY:∀{ds:List Dt} {xs:List V},aP H ds xs->∀{j:Nat} {x:V},xs[j]?=some x->∃d,ds[j]?=some d/\cE H d x
 | [],_,h,j,x,e=>by unfold aP at h;subst h;simp at e
 |d::ds,xs,h,j,x,e=>by
  obtain⟨y,r,rfl,h1,h2⟩:=h.uncons
  match j,e with
  |0,e=>cases e;exact⟨d,rfl,h1⟩
  |j+1,e=>exact kY h2 e
theorem oR{t:aQ}{vs:List V}{j:Nat}{x:V}(h:aP H (t.ps.map aQ.d) vs)(e:vs[j]?=some x):∃s,t.ps[j]?=some s/\cE H s.d x:=by
 obtain⟨d,h1,h2⟩:=kY h e;rw[MC]at h1;obtain⟨s,a,rfl⟩:=M3.mp h1;exact⟨s,a,h2⟩
theorem oE{t:aQ}{vs:List V}(h:aP H (t.ps.map aQ.d) vs):vs.length=t.ps.length:=by rw[h.length,MA]
theorem Eg(x:V)(ys:List V):fW (x::ys) (some 1) none=ys:=by
 unfold fW;rw[show(some 1:Option Int)=some ((1:Nat):Int) from rfl,HT.sIx_nat,HT.sIx_none,Np (by simp)];exact q0E (by simp)
theorem qb(x:V)(ys:List V):¬ (HT.sIx (x::ys).length 0 (some 1)=0/\HT.sIx (x::ys).length (x::ys).length none=(x::ys).length):=by
 rw[show(some 1:Option Int)=some ((1:Nat):Int) from rfl,HT.sIx_nat,Np (by simp)];exact λh=>q0N h.1 nofun
theorem gz{z:Str}{n:Nat}(h:n∈bW z rs):∃q,rs[n]?=some q/\tx q.2.n=z:=by
 unfold bW at h;obtain⟨x,hx,e⟩:=List.mem_filterMap.mp h
 split at e
 ·rename_i hz
  cases e;exact⟨x.1,List.mem_zipIdx_iff_getElem?.mp hx,hz⟩
 ·cases e
theorem AQ(S:Nat×RV->Nat)(z:Nw):∀(n:Nat) (rs:Yaa),rs.length=n->((bW (tx z) rs).map λi=>(rs[i]?.map S).getD 0).sum=((gq z rs).map S).sum
 |0,rs,h=>by rw[Nf.mp h];rfl
 |n+1,rs,h=>by
  obtain⟨rs',r,rfl⟩:∃rs' r,rs=rs'++[r]:=⟨rs.dropLast,rs.getLast (by intro e;rw[e]at h;cases h),(List.dropLast_concat_getLast _).symm⟩;have hl:rs'.length=n:=by rw[MV,q0U]at h;omega
  have b:=AQ S z n rs' hl;rw[qT,ML,List.sum_append];have j:(bW (tx z) rs').map (λi=>((rs'++[r])[i]?.map S).getD 0)=(bW (tx z) rs').map λi=>(rs'[i]?.map S).getD 0:=q0H λi g=>by
   obtain⟨q,c,_⟩:=gz g;rw[MU (My.mp c).1]
  rw[j,b];unfold gq;rw[List.filter_append,ML,List.sum_append]
  congr 1
  by_cases a:r.2.n=z
  ·rw[q07 (by rw[a])]
   simp[a]
  ·rw[q06 (λe=>a (dW e))]
   simp[a]
theorem jr{q:Nat×RV}{r c:Nat}{k:Int}(h4:q.1<4)(hq:1<=q.2.c)(hr:1<=r)(hc:1<=c)(hr6:r<=6)(hc6:c<=6)(hk:k<=16):(cG q r c k).length<=75:=by
 obtain⟨t,v⟩:=q;have:t=0\/t=1\/t=2\/t=3:=by simp at h4;omega
 simp only at hq;rcases this with rfl | rfl | rfl | rfl
 ·show(if r=1/\c=1/\k=v.c then[[]] else[]).length<=75
  split<;>simp
 ·refine M6 (gv (by show k-v.c<=15;omega) _ λz a=>kR hr a) ?_
  rw[iU];omega
 ·refine M6 (gv (by show k-v.c<=15;omega) _ λz a=>kI hc a) ?_
  rw[iX];omega
 ·show([[_]]:List (List TR)).length<=75
  simp
theorem o6{z:Str}:∀{m:List (Str×List Nat)},z∉m.map (·.1)->m.lookup z=none
 | [],_=>rfl
 |p::m,h=>by
  rw[M5,MO]at h;have h1:(z==p.1)=false:=beq_eq_false_iff_ne.mpr λe=>h (.inl e);rw[List.lookup_cons,h1];exact o6 λq=>h (.inr q)
theorem FJ{H:Hp}{t:Nat}{Q:VK}(hb:H b=some (.tup (b5 p)))(h4:t<4)(ra:jt R H t a v)(r1:1<=p.2.1)(r6:p.2.1<=6)(c1:1<=p.2.2.1)(c6:p.2.2.1<=6)(k16:p.2.2.2<=16)(k1:1<=p.2.2.2)(vc:1<=v.c)(vc9:v.c<=9)(vt:0<=v.t)(q:∀l H',H l=none->fP H H' l (cG (t,v) p.2.1 p.2.2.1 p.2.2.2)->az H H'->Q (.ref l) H') :
  ∃o,o∈lL R/\∃a_1,V.ref a=V.ref a_1/\∃dx fs,H a_1=some (.ins o.1 dx fs)/\fs.lookup (Str.ofString "part_rows")=none/\∃xs,aZ K H b xs/\∃v1,gZ xs 1=some v1/\∃xs,aZ K H b xs/\∃v2,gZ xs 2=some v2/\∃xs,aZ K H b xs/\∃v3,gZ xs 3=some v3/\o.2 [.ref a,v1,v2,v3] H Q E:=by
 obtain⟨o,c,dx,fs,j,g,e⟩:=DE (E:=E) h4 ra r1 r6 c1 c6 k16 k1 vc vc9 vt q;exact⟨o,c,a,rfl,dx,fs,j,g,_,aZ.of hb,_,rfl,_,aZ.of hb,_,rfl,_,aZ.of hb,_,rfl,e⟩
abbrev wv:=Nat×List TR×Nat
def dA(rs:Yaa)(p:TR)(i:Nat):List wv:=match rs[i]? with
 |some q=>(cG q p.2.1 p.2.2.1 p.2.2.2).filterMap λps=>if 0<aR (CN rs) ps then some (i,ps,aR (CN rs) ps) else none
 |none=>[]
def a_(rs:Yaa)(p:TR):List wv:=if p.2.2.2<fw p.2.1 p.2.2.1 then[] else(bW (tx p.1) rs).flatMap (dA rs p)
def bQ(F:TR->List aQ):List TR->List (List aQ)
 | []=>[[]]
 |p::ps=>(F p).flatMap λt=>(bQ F ps).map (t :: ·)
def Hi(rs:Yaa):Nat->TR->List aQ
 |0,_=>[]
 |f+1,p=>(a_ rs p).flatMap λs=>(bQ (Hi rs f) s.2.1).map (iS (s.1:Int))
abbrev RT(rs:Yaa)(p:TR):List aQ:=Hi rs 17 p
structure fN(p:TR):Prop where
 r1:1<=p.2.1
 r6:p.2.1<=6
 c1:1<=p.2.2.1
 c6:p.2.2.1<=6
 k16:p.2.2.2<=16
theorem jb{s:wv}(h:s∈a_ rs p):∃q,rs[s.1]?=some q/\q.2.n=p.1/\s.2.1∈cG q p.2.1 p.2.2.1 p.2.2.2/\s.2.2=aR (CN rs) s.2.1/\0<s.2.2/\fw p.2.1 p.2.2.1<=p.2.2.2:=by
 unfold a_ at h
 split at h
 ·cases h
 ·rename_i hk
  obtain⟨i,hi,h⟩:=List.mem_flatMap.mp h;obtain⟨q,hq,hn⟩:=gz hi;unfold dA at h;rw[hq]at h;obtain⟨ps,hps,e⟩:=List.mem_filterMap.mp h
  split at e
  ·rename_i h0
   cases e;exact⟨q,hq,dW hn,hps,rfl,h0,⋯⟩
  ·cases e
theorem kT(hg:eF rs){p p':TR}{s:wv}(ok:fN p)(h:s∈a_ rs p)(hp:p'∈s.2.1):fN p'/\p'.2.2.2<p.2.2.2:=by
 obtain⟨q,c,_,b,_,_,hk⟩:=jb h;obtain⟨g,e,_⟩:=hg q (MD c);have a:=jQ g e ok.r1 ok.c1 b hp;have:=ok.r6;have:=ok.c6;have:=ok.k16;have:=a.rm;have:=a.cm;exact⟨⟨a.r1,⋯,a.c1,⋯,by have:=a.lt;omega⟩,a.lt⟩
theorem ph{F G:TR->List aQ}:∀{ps:List TR},(∀p∈ps,F p=G p)->bQ F ps=bQ G ps
 | [],_=>rfl
 |p::ps,h=>by
  unfold bQ;rw[h p q0B,ph λp' hp'=>h p' (MP _ hp')]
theorem kr{α β:Type}{f g:α->List β}:∀{l:List α},(∀x∈l,f x=g x)->l.flatMap f=l.flatMap g
 | [],_=>rfl
 |x::l,h=>by rw[List.flatMap_cons,List.flatMap_cons,h x q0B,kr λy hy=>h y (MP _ hy)]
theorem BU(ok:fN p)(h:p.2.2.2<1):a_ rs p=[]:=by
 unfold a_;rw[q07 (by have:=b6 ok.r1 ok.c1;omega)]
theorem wg(ok:fN p)(h:p.2.2.2<1)(f:Nat):Hi rs f p=[]:=by
 cases f with
 |zero=>rfl
 |succ f=>unfold Hi;rw[BU ok h];rfl
theorem xT(hg:eF rs):∀(f:Nat) (p:TR),fN p->p.2.2.2<(f:Int)+1->Hi rs (f+1) p=Hi rs f p
 |0,p,ok,h=>by rw[wg ok (by simpa using h),wg ok (by simpa using h)]
 |f+1,p,ok,h=>by
  show(a_ rs p).flatMap _=(a_ rs p).flatMap _;refine kr λs hs=>?_;rw[ph λp' hp'=>?_];obtain⟨ok',lt⟩:=kT hg ok hs hp';exact xT hg f p' ok' (by push_cast at h;omega)
theorem uJ(hg:eF rs){p:TR}(ok:fN p):RT rs p=(a_ rs p).flatMap λs=>(bQ (RT rs) s.2.1).map (iS (s.1:Int)):=by
 have:=(xT hg 17 p ok (by have:=ok.k16;push_cast;omega)).symm;exact this
theorem wR{α β:Type}{f:α->List β}{n:Nat}:∀{l:List α},(∀x,(f x).length=n)->(l.flatMap f).length=l.length*n
 | [],_=>by simp
 |x::l,h=>by rw[List.flatMap_cons,MV,h x,wR (l:=l) h,MK,Nat.add_mul];omega
theorem yb{i:Nat}:∀pss:List (List TR),((pss.filterMap λps=>if 0<aR (CN rs) ps then some ((i,ps,aR (CN rs) ps):wv) else none).map λs=>s.2.2).sum=(pss.map λps=>aR (CN rs) ps).sum
 | []=>rfl
 |ps::pss=>by
  rw[q0Q,M5,List.sum_cons]
  by_cases h0:0<aR (CN rs) ps
  ·rw[q07 h0]
   show((_::_:List wv).map λs=>s.2.2).sum=_;rw[M5,List.sum_cons,yb pss]
  ·rw[q06 h0]
   show(List.map _ _).sum=_;rw[yb pss];omega
theorem fG{F:TR->List aQ}{g:TR->Nat}:∀{ps:List TR},(∀p∈ps,(F p).length=g p)->(bQ F ps).length=aR g ps:=by
 have a:∀{ps:List TR} (m:Nat),(∀p∈ps,(F p).length=g p)->ps.foldl (λm p=>m*g p) m=m*(bQ F ps).length:=by
  intro ps
  induction ps with
  |nil=>intro m _;unfold bQ;simp
  |cons p ps ih=>
   intro m h;rw[List.foldl_cons,ih _ λc b=>h c (MP _ b)];have:(bQ F (p::ps)).length=(F p).length*(bQ F ps).length:=by
    show((F p).flatMap λt=>(bQ F ps).map (t :: ·)).length=_;rw[wR (n:=(bQ F ps).length) λt=>by rw[MA]]
   rw[this,h p q0B,Nat.mul_assoc]
 intro ps h;unfold aR;rw[a 1 h,Nat.one_mul]
theorem j5{α β:Type}(f:α->List β):∀l:List α,(l.flatMap f).length=(l.map λx=>(f x).length).sum
 | []=>rfl
 |x::l=>by rw[List.flatMap_cons,MV,j5 f l,M5,List.sum_cons]
theorem nM(hg:eF rs){p:TR}(ok:fN p):((a_ rs p).map λs=>s.2.2).sum=CN rs p:=by
 unfold a_
 by_cases a:p.2.2.2<fw p.2.1 p.2.2.1
 ·rw[q07 a,Dq a];rfl
 rw[q06 a];have:=ok.r1;have:=ok.r6;have:=ok.c1;have:=ok.c6;rw[F5 hg ok.k16,q06 ⋯,<- AQ (λq=>((cG q p.2.1 p.2.2.1 p.2.2.2).map λps=>aR (CN rs) ps).sum) p.1 _ rs rfl,o_]
 congr 1
 refine q0H λi c=>?_;obtain⟨q,b,_⟩:=gz c;rw[b];show((dA rs p i).map λs=>s.2.2).sum=((cG q p.2.1 p.2.2.1 p.2.2.2).map λps=>aR (CN rs) ps).sum;have e:dA rs p i=(cG q p.2.1 p.2.2.1 p.2.2.2).filterMap λps=>if 0<aR (CN rs) ps then some (i,ps,aR (CN rs) ps) else none:=by unfold dA;rw[b]
 rw[e,yb]
theorem Fo(hg:eF rs):∀(f:Nat) (p:TR),fN p->p.2.2.2<(f:Int)->(RT rs p).length=CN rs p
 |0,p,ok,h=>by
  show(Hi rs 17 p).length=_;rw[wg ok (by simp at h;omega),Dq (by have:=b6 ok.r1 ok.c1;simp at h;omega)];rfl
 |f+1,p,ok,h=>by
  rw[uJ hg ok,j5,<- nM hg ok]
  congr 1
  refine q0H λs hs=>?_;obtain⟨q,hq,_,hps,e,_⟩:=jb hs;rw[MA,fG (g:=CN rs) λp' hp'=>?_,e];obtain⟨ok',lt⟩:=kT hg ok hs hp';exact Fo hg f p' ok' (by push_cast at h;omega)
theorem bU(hg:eF rs){p:TR}(ok:fN p):(RT rs p).length=CN rs p:=Fo hg 17 p ok (by have:=ok.k16;push_cast;omega)
theorem xW{α β:Type}{f:α->List β}{l:List α}{i:Nat}{x:α}(hx:l[i]?=some x){j:Nat}(hj:j<(f x).length):(l.flatMap f)[((l.take i).map λy=>(f y).length).sum+j]?=(f x)[j]?:=by
 obtain⟨a,e⟩:=My.mp hx;have c:l=l.take i++x::l.drop (i+1):=by rw[<- e,<- List.drop_eq_getElem_cons a,List.take_append_drop]
 have b:l.flatMap f=(l.take i).flatMap f++(f x++(l.drop (i+1)).flatMap f):=by
  conv=>lhs;rw[c]
  rw[List.flatMap_append,List.flatMap_cons]
 rw[b,<- j5,MT ⋯,Nat.add_sub_cancel_left,MU hj]
theorem tX{α:Type}(g:α->Nat):∀(l:List α) (i:Nat) (x:α),l[i]?=some x->((l.take (i+1)).map g).sum=((l.take i).map g).sum+g x:=by
 intro l i x h;rw[q0D,h,ML,List.sum_append];simp
theorem iI{p:TR}(k:Nat):(bQ F [p])[k]?=(F p)[k]?.map λt=>[t]:=by
 unfold bQ bQ;have:((F p).flatMap λt=>([[]]:List (List aQ)).map (t :: ·))=(F p).map λt=>[t]:=by
  induction F p with
  |nil=>rfl
  |cons t l ih=>rw[List.flatMap_cons,ih];rfl
 rw[this,MC]
theorem ze{α β:Type}{f:α->List β}{n:Nat}(hn:∀x,(f x).length=n):∀{l:List α} {k:Nat} {x:α} {y:β},l[k/n]?=some x->(f x)[k%n]?=some y->(l.flatMap f)[k]?=some y:=by
 intro l k x y h1 h2
 by_cases e:n=0
 ·subst e
  have:=hn x;rw[Nf.mp this]at h2;simp at h2
 have a:((l.take (k/n)).map λy=>(f y).length).sum=k/n*n:=by
  have b:(l.take (k/n)).length=k/n:=by rw[Nb];have:=(My.mp h1).1;omega
  have:∀m:List α,(m.map λy=>(f y).length).sum=m.length*n:=by
   intro m
   induction m with
   |nil=>simp
   |cons z m ih=>rw[M5,List.sum_cons,ih,hn,MK,Nat.add_mul];omega
  rw[this,b]
 have c:k%n<(f x).length:=by rw[hn];exact Nat.mod_lt _ ⋯
 have:=xW h1 c;rw[a,h2]at this;rw[show k/n*n+k%n=k by rw[Nat.mul_comm];exact Nat.div_add_mod k n]at this;exact this
theorem tP{F:TR->List aQ}{k:Nat}{t1 t2:aQ}(h1:(F p1)[k/(F p2).length]?=some t1)(h2:(F p2)[k%(F p2).length]?=some t2):(bQ F [p1,p2])[k]?=some [t1,t2]:=by
 show((F p1).flatMap λt=>(bQ F [p2]).map (t :: ·))[k]?=_;have a:(bQ F [p2]).length=(F p2).length:=by
  rw[fG (g:=λp=>(F p).length) λ_ _=>rfl];simp[aR]
 refine ze (n:=(F p2).length) (λt=>by rw[MA,a]) h1 ?_;rw[MC,iI,h2];rfl
theorem Fl(hg:eF rs){p:TR}(ok:fN p){i:Nat}{s:wv}(hs:(a_ rs p)[i]?=some s){j:Nat}{ts:List aQ}(hj:(bQ (RT rs) s.2.1)[j]?=some ts):(RT rs p)[(((a_ rs p).take i).map λs=>s.2.2).sum+j]?=some (iS (s.1:Int) ts):=by
 rw[uJ hg ok];have b:∀s∈a_ rs p,((bQ (RT rs) s.2.1).map (iS (s.1:Int))).length=s.2.2:=λs hs=>by
  obtain⟨q,hq,_,hps,e,_⟩:=jb hs;rw[MA,fG (g:=CN rs) λp' a=>bU hg (kT hg ok hs a).1,e]
 have e:(((a_ rs p).take i).map λs=>s.2.2)=((a_ rs p).take i).map λs=>((bQ (RT rs) s.2.1).map (iS (s.1:Int))).length:=q0H λs hs=>(b s (q0F hs)).symm;rw[e,xW (f:=λs:wv=>(bQ (RT rs) s.2.1).map (iS (s.1:Int))) hs (by rw[MA];exact(My.mp hj).1),MC,hj]
 rfl
def cM(H0 H:Hp)(l:Addr)(ss:List wv):Prop:=H0 l=none/\∃ts:List Addr,H l=some (.lst (ts.map V.ref))/\ts.length=ss.length/\∀(i:Nat) t s,ts[i]?=some t->ss[i]?=some s->∃rl,(H0 rl=none/\rl≠l)/\H t=some (.tup [.int (s.1:Int),.ref rl,.int (s.2.2:Int)])/\qN H rl s.2.1
theorem cM.kp{ms:List wv}(h:cM H0 H l ms)(s:Kp H H'):cM H0 H' l ms:=by
 obtain⟨k,a,h1,h2,j⟩:=h;refine⟨k,a,s.lst h1,h2,λi t x n m=>?_⟩;obtain⟨b,c,e,g⟩:=j i t x n m;exact⟨b,c,s.tup e,g.kp s⟩
theorem cM.nil{H0 H:Hp}(h0:H0 l=none)(h:H l=some (.lst [])):cM H0 H l []:=⟨h0,[],h,rfl,λi a ps e=>by simp at e⟩
theorem cM.app{t rl:Addr}{ms:List wv}{x:wv}(h:cM H0 H l ms)(hx:H l=some (.lst xs))(ht:H t=some (.tup [.int (x.1:Int),.ref rl,.int (x.2.2:Int)]))(hT:qN H rl x.2.1)(hn:H0 rl=none/\rl≠l):cM H0 (ay H l (.lst (xs++[V.ref t]))) l (ms++[x]):=by
 obtain⟨v,j,h1,h2,u⟩:=h;rw[hx]at h1;cases h1;have a:∀m o,H m=some (.tup o)->ay H l (.lst (j.map V.ref++[V.ref t])) m=some (.tup o):=λm o e=>by rw[ao (λz=>by rw[z,hx]at e;cases e)];exact e
 refine⟨v,j++[t],by rw[ad,ML];rfl,by rw[MV,MV,h2];rfl,λi b y g k=>?_⟩
 by_cases r:i<j.length
 ·rw[MU r]at g
  rw[MU ⋯]at k;obtain⟨n,c,e,q⟩:=u i b y g k;exact⟨n,c,a _ _ e,q.put c.2 ⟨_,hx⟩⟩
 ·have p:i=j.length:=by
   have:=(My.mp g).1;simp at this;omega
  subst p;rw[MT (MW _),Nat.sub_self]at g;rw[h2,MT (MW _),Nat.sub_self]at k;cases g;cases k
  exact⟨rl,hn,a _ _ ht,hT.put hn.2 ⟨_,hx⟩⟩
theorem cM.len{ms:List wv}(h:cM H0 H l ms)(hx:H l=some (.lst xs)):xs.length=ms.length:=by
 obtain⟨_,ts,h1,h2,_⟩:=h;rw[hx]at h1;cases h1;rw[MA,h2]
def HK(H:Hp)(l:Addr)(ps:List TR):Prop:=∃(bs:NA) (o:Obj),H l=some (.frz o (.lst (bs.map V.ref)))/\bs.length=ps.length/\∀(i:Nat) b p,bs[i]?=some b->ps[i]?=some p->H b=some (.tup (b5 p))
def kD(H:Hp)(l:Addr)(ss:List wv):Prop:=∃(ts:NA) (o:Obj),H l=some (.frz o (.lst (ts.map V.ref)))/\ts.length=ss.length/\∀(i:Nat) t s,ts[i]?=some t->ss[i]?=some s->∃rl,H t=some (.tup [.int (s.1:Int),.ref rl,.int (s.2.2:Int)])/\HK H rl s.2.1
def wt(H H':Hp):Prop:=(∀x o u,H x=some (.frz o u)->H' x=some (.frz o u))/\∀x xs,H x=some (.tup xs)->H' x=some (.tup xs)
theorem Kp.z(s:Kp H H'):wt H H':=⟨λx o u e=>s _ _ id e,λx xs e=>s _ _ id e⟩
theorem wt.trans(a:wt H H1)(b:wt H1 H2):wt H H2:=⟨λx o u e=>b.1 x o u (a.1 x o u e),λx xs e=>b.2 x xs (a.2 x xs e)⟩
theorem wt.put{H:Hp}(h:H l=some (.lst xs)):wt H (ay H l o):=⟨λx o u e=>by rw[ao (λz=>by rw[z,h]at e;cases e)];exact e,λx ys e=>by rw[ao (λz=>by rw[z,h]at e;cases e)];exact e⟩
theorem wt.frz{H:Hp}{ls:NA}{os:Addr->Obj}:wt H (cZ H ls os):=⟨λx o u e=>gw e (.inr λxs z=>by cases z),λx xs e=>gw e (.inr λxs z=>by cases z)⟩
theorem HK.kz{ps:List TR}(h:HK H l ps)(s:wt H H'):HK H' l ps:=by
 obtain⟨bs,o,h1,h2,a⟩:=h;exact⟨bs,o,s.1 _ _ _ h1,h2,λi b p e c=>s.2 _ _ (a i b p e c)⟩
theorem kD.kz{ms:List wv}(h:kD H l ms)(s:wt H H'):kD H' l ms:=by
 obtain⟨a,o,h1,h2,g⟩:=h;refine⟨a,o,s.1 _ _ _ h1,h2,λi t x k j=>?_⟩;obtain⟨b,e,c⟩:=g i t x k j;exact⟨b,s.2 _ _ e,c.kz s⟩
def Ep(H:Hp)(t:Addr):Option Addr:=match H t with
 |some (.tup [_,.ref rl,_])=>some rl
 |_=>none
theorem cM.known{ss:List wv}(h:cM H0 H l ss):∃ls:List Addr,(∀x∈ls,∃xs,H x=some (.lst xs))/\(∀x∈ls,H0 x=none)/\∀os,kD (cZ H ls os) l ss:=by
 obtain⟨C,a,h1,h2,q⟩:=h;have mem:∀x∈a.filterMap (Ep H),(∃xs,H x=some (.lst xs))/\H0 x=none:=λx hx=>by
  obtain⟨t,w,e⟩:=List.mem_filterMap.mp hx;obtain⟨i,o⟩:=List.getElem?_of_mem w;obtain⟨c,n,m,k⟩:=q i t (ss[i]'(by rw[<- h2];exact(My.mp o).1)) o (Mx _);unfold Ep at e;rw[m]at e;cases e;obtain⟨bs,j,_⟩:=k;exact⟨⟨_,j⟩,n.1⟩
 refine⟨l::a.filterMap (Ep H),λx hx=>?_,λx hx=>?_,λos=>?_⟩
 ·rcases MO.mp hx with rfl | hx
  ·exact⟨_,h1⟩
  ·exact(mem x hx).1
 ·rcases MO.mp hx with rfl | hx
  ·exact C
  ·exact(mem x hx).2
 ·refine⟨a,_,zD h1 (q0B ..),h2,λi t s r m=>?_⟩
  obtain⟨c,n,e,k⟩:=q i t s r m;have y:c∈a.filterMap (Ep H):=List.mem_filterMap.mpr ⟨t,MD r,by unfold Ep;rw[e]⟩;obtain⟨bs,j,B,g⟩:=k;exact⟨c,wt.frz.2 _ _ e,bs,_,zD j (MP _ y),B,λi b p v u=>wt.frz.2 _ _ (g i b p v u)⟩
def fK(H:Hp)(rs:Yaa)(m1:List (List df×V)):Prop:=∀(p:TR) v,cA m1 (du p)=some v->∃l,v=.ref l/\kD H l (a_ rs p)
theorem fK.kz{m1:List (List df×V)}(h:fK H rs m1)(s:wt H H'):fK H' rs m1:=λp v e=>by
 obtain⟨l,e2,h2⟩:=h p v e;exact⟨l,e2,h2.kz s⟩
theorem fK.kp{m1:List (List df×V)}(h:fK H rs m1)(s:Kp H H'):fK H' rs m1:=h.kz s.z
theorem oH(hg:eF rs){p:TR}(ok:fN p)(h24:rs.length<=24):(a_ rs p).length<=1800:=by
 unfold a_
 split
 ·simp
 ·rw[j5]
  refine M6 (i8 _ 75 _ λi b=>?_) ?_
  ·obtain⟨q,a,_⟩:=gz b
   obtain⟨e,c,_⟩:=hg q (MD a);unfold dA;rw[a];exact M6 (List.length_filterMap_le _ _) (jr e c ok.r1 ok.c1 ok.r6 ok.c6 ok.k16)
  ·have:=uv (tx p.1) rs
   omega
def IH(g d1 d2:Addr):List (Str×V):=[("grammar",.ref g),("steps",.ref d1),("totals",.ref d2)]
structure qd(st:Nw)(rs:Yaa)(m:Nat)(p:TR):Prop where
 nm:tx p.1∈(bf (tx st) rs).map (·.1)
 r1:1<=p.2.1
 rm:p.2.1<=m
 c1:1<=p.2.2.1
 cm:p.2.2.1<=m
 k0:-8<=p.2.2.2
 k16:p.2.2.2<=16
theorem mV{α:Type}[DecidableEq α]:∀{l L:List α},l.Nodup->(∀x∈l,x∈L)->l.length<=L.length
 | [],_,_,_=>MX _
 |x::l,L,hn,hs=>by
  have hx:x∈L:=hs x q0B;rw[List.nodup_cons]at hn;have:=mV (l:=l) (L:=L.erase x) hn.2 λy hy=>(List.mem_erase_of_ne λe=>hn.1 (by rw[<- e];exact hy)).mpr (hs y (MP _ hy));rw[List.length_erase_of_mem hx]at this;have:=List.length_pos_of_mem hx;rw[MK];omega
theorem hU{α β:Type}{f:α->List β}{n:Nat}:∀{l:List α},(∀x,(f x).length=n)->(l.flatMap f).length=l.length*n
 | [],_=>by simp
 |x::l,h=>by rw[List.flatMap_cons,MV,h x,hU (l:=l) h,MK,Nat.add_mul];omega
def BH(zs:NF):List (List df):=zs.flatMap λz=>(List.range 7).flatMap fun(r:Nat)=>(List.range 7).flatMap fun(c:Nat)=>(List.range 25).map fun(j:Nat)=>[.inr z,.inl (r:Int),.inl (c:Int),.inl ((j:Int)-8)]
theorem E4(zs:NF):(BH zs).length=zs.length*(7*(7*25)):=
 hU λz=>(hU λr=>(hU λc=>by rw[MA,q0G]).trans (by rw[q0G])).trans (by rw[q0G])
theorem ED{st:Nw}(d:qd st rs m p)(h6:m<=6):du p∈BH ((bf (tx st) rs).map (·.1)):=by
 have:=d.rm;have:=d.cm;have:=d.k0;have:=d.k16;refine List.mem_flatMap.mpr ⟨_,d.nm,List.mem_flatMap.mpr ⟨p.2.1,List.mem_range.mpr ⋯,List.mem_flatMap.mpr ⟨p.2.2.1,List.mem_range.mpr ⋯,Ng.mpr ⟨(p.2.2.2+8).toNat,List.mem_range.mpr ⋯,?_⟩⟩⟩⟩;unfold du;rw[show(((p.2.2.2+8).toNat:Int)-8)=p.2.2.2 by omega]
structure qp(st:Nw)(rs:Yaa)(m:Nat)(m1 m2:List (List df×V)):Prop where
 n1:(m1.map (·.1)).Nodup
 n2:(m2.map (·.1)).Nodup
 k1:∀k∈m1.map (·.1),k∈BH ((bf (tx st) rs).map (·.1))
 k2:∀k∈m2.map (·.1),k∈BH ((bf (tx st) rs).map (·.1))
 ok:∀p:TR,(cA m1 (du p)).isSome=true->cA m2 (du p)=some (.int (CN rs p:Nat))
theorem qp.len{st:Nw}{m1:List (List df×V)}(h:qp st rs m m1 m2)(hz:(bf (tx st) rs).length<=100):m1.length<sizeLine/\m2.length<sizeLine:=by
 have h1:=mV h.n1 h.k1;have h2:=mV h.n2 h.k2;rw[E4,MA,MA]at h1 h2;exact⟨bq ⋯,bq ⋯⟩
structure gX(R:RC)(CG CT:Addr)(H:Hp)(a dx g dg d1 d2:Addr)(sg st:Nw)(as:NA)(rs:Yaa)(m:Nat):Prop where
 at_:H a=some (.ins CT dx (IH g d1 d2))
 ne:d1≠d2
 gr:dB R H CG dg g sg st as rs
 gc:eF rs
 gt:∀q∈rs,0<=q.2.t
 sm:∀p:TR,p.2.1<=m->p.2.2.1<=m->p.2.2.2<=7->CN rs p<2 ^ 64
 m6:m<=6
 n24:rs.length<=24
 nz:(bf (tx st) rs).length<=100
 mm:∃m1 m2,H d1=some (.dT m1)/\H d2=some (.dT m2)/\qp st rs m m1 m2/\fK H rs m1
section
variable {R:RC}{CG CT:Addr}{H H':Hp}{a dx g dg d1 d2:Addr}{sg st:Nw}{as:NA}{rs:Yaa}{m:Nat}
theorem gX.kp(e:gX R CG CT H a dx g dg d1 d2 sg st as rs m)(s:b8 d1 d2 H H'):Kp H H':=λx o ho hx=>by
 obtain⟨m1,m2,h1,h2,_⟩:=e.mm;refine s x o (λz=>?_) (λz=>?_) hx
 ·rw[z,h1]at hx;cases hx;exact ho trivial
 ·rw[z,h2]at hx;cases hx;exact ho trivial
theorem gX.next(e:gX R CG CT H a dx g dg d1 d2 sg st as rs m)(s:b8 d1 d2 H H')(mm:∃m1 m2,H' d1=some (.dT m1)/\H' d2=some (.dT m2)/\qp st rs m m1 m2/\fK H' rs m1):gX R CG CT H' a dx g dg d1 d2 sg st as rs m:=
 ⟨(e.kp s).ins e.at_,e.ne,e.gr.kp (e.kp s),e.gc,e.gt,e.sm,e.m6,e.n24,e.nz,mm⟩
theorem gX.fresh(e:gX R CG CT H a dx g dg d1 d2 sg st as rs m)(s:b8 d1 d2 H H')(mm:∃m1 m2,H' d1=some (.dT m1)/\H' d2=some (.dT m2)/\qp st rs m m1 m2/\fK H' rs m1){x:Addr}(hx:H' x=none):H x=none:=by
 cases b:H x with
 |none=>rfl
 |some o=>
  obtain⟨m1,m2,h1,h2,_⟩:=mm;have:=s x o (λz=>by rw[z,h1]at hx;cases hx) (λz=>by rw[z,h2]at hx;cases hx) b;rw[this]at hx;cases hx
theorem gX.up(e:gX R CG CT H a dx g dg d1 d2 sg st as rs m)(s:az H H'):gX R CG CT H' a dx g dg d1 d2 sg st as rs m:=by
 obtain⟨m1,b,h1,h2,j,c⟩:=e.mm;exact e.next (.of s) ⟨m1,b,s _ _ h1,s _ _ h2,j,c.kp (.of s)⟩
end
theorem Bo{st:Nw}{rs:Yaa}{q:Nat×RV}(hq:q∈rs)(h4:q.1<4){z:Nw}(hz:z∈aO q.1 q.2):tx z∈(bf (tx st) rs).map (·.1):=
 (nh _ _ _).mpr (.inr ⟨(tx q.2.n,(aO q.1 q.2).map tx),by unfold GJ;exact List.mem_map_of_mem (f:=λr:Nat×RV=>(tx r.2.n,(aO r.1 r.2).map tx)) hq,.inr (List.mem_map_of_mem hz)⟩)
theorem qd.part{st:Nw}{p':TR}{q:Nat×RV}{ps:List TR}(d:qd st rs m p)(gc:eF rs)(hq:q∈rs)(k1:1<=p.2.2.2)(h:ps∈cG q p.2.1 p.2.2.1 p.2.2.2)(hp:p'∈ps):qd st rs m p'/\p'.2.2.2<p.2.2.2:=by
 obtain⟨c,j,hc9⟩:=gc q hq;have a:=jQ c j d.r1 d.c1 h hp;have:=d.rm;have:=d.cm;have:=d.k16;have:=a.rm;have:=a.cm;have lt:=a.lt;refine⟨⟨?_,a.r1,⋯,a.c1,⋯,?_,⋯⟩,lt⟩
 ·have mem:p'.1∈aO q.1 q.2:=by
   rcases eY c d.r1 d.c1 h with rfl | ⟨p2,rfl,k,e2,e3⟩ | ⟨g,z,f,sz,f1,f2,rfl⟩
   ·cases hp
   ·rw[MB.mp hp,k]
    have:q.1=0\/q.1=1\/q.1=2\/q.1=3:=by omega
    rcases this with e | e | e | e
    ·exfalso
     unfold cG at h;rw[e]at h;simp only at h
     split at h
     ·simp at h
     ·simp at h
    ·rw[e];simp[aO]
    ·rw[e];simp[aO]
    ·rw[e];simp[aO]
   ·have b:aO q.1 q.2=[q.2.o1,q.2.o2]:=by rcases g with e | e<;>rw[e]<;>rfl
    rw[b];rcases(show p'=_\/p'=_ by simpa using hp) with rfl | rfl<;>simp
  exact Bo hq c mem
 ·rcases a.ge with h | h<;>omega
abbrev dY(st:Nw)(rs:Yaa)(m:Nat)(H:Hp)(d1 d2:Addr):Prop:=∃m1 m2,H d1=some (.dT m1)/\H d2=some (.dT m2)/\qp st rs m m1 m2/\fK H rs m1
inductive bz(R:RC)(CG CT CN_:Addr)(n:Nat)(vs:List V)(H:Hp)(Q:VK)(E:XK):Prop
 |mk (a dx g dg d1 d2 b:Addr) (sg st:Nw) (as:NA) (rs:Yaa) (m:Nat) (p:TR) (_:vs=[.ref a,.ref b]) (_:gX R CG CT H a dx g dg d1 d2 sg st as rs m) (_:H b=some (.tup (b5 p))) (_:((qd st rs m p/\0<n/\p.2.2.2<(n:Int)/\(∀H',b8 d1 d2 H H'->dY st rs m H' d1 d2->Q (.int (CN rs p:Nat)) H'))\/(0<n/\tx p.1∉(bf (tx st) rs).map (·.1)/\E (.ref CN_) none H)))
inductive bX(R:RC)(CG CT CN_:Addr)(n:Nat)(vs:List V)(H:Hp)(Q:VK)(E:XK):Prop
 |mk (a dx g dg d1 d2 b:Addr) (sg st:Nw) (as:NA) (rs:Yaa) (m:Nat) (p:TR) (_:vs=[.ref a,.ref b]) (_:gX R CG CT H a dx g dg d1 d2 sg st as rs m) (_:H b=some (.tup (b5 p))) (_:((qd st rs m p/\0<n/\p.2.2.2<(n:Int)/\(∀l H',b8 d1 d2 H H'->dY st rs m H' d1 d2->(∃m2,H' d2=some (.dT m2)/\cA m2 (du p)=some (.int (CN rs p:Nat)))->kD H' l (a_ rs p)->Q (.ref l) H'))\/(0<n/\tx p.1∉(bf (tx st) rs).map (·.1)/\E (.ref CN_) none H)))
inductive fk(R:RC)(CG CT CN_:Addr)(n:Nat)(vs:List V)(H:Hp)(Q:VK)(E:XK):Prop
 |mk (a dx g dg d1 d2 b:Addr) (sg st:Nw) (as:NA) (rs:Yaa) (m:Nat) (p:TR) (_:vs=[.ref a,.ref b]) (_:gX R CG CT H a dx g dg d1 d2 sg st as rs m) (_:H b=some (.tup (b5 p))) (_:((qd st rs m p/\0<n/\p.2.2.2<(n:Int)/\(∀l H',b8 d1 d2 H H'->dY st rs m H' d1 d2->cM H H' l (a_ rs p)->Q (.ref l) H'))\/(0<n/\tx p.1∉(bf (tx st) rs).map (·.1)/\E (.ref CN_) none H)))
inductive cS(R:RC)(CG CT:Addr)(n:Nat)(vs:List V)(H:Hp)(Q:VK)(_E:XK):Prop
 |mk (a dx g dg d1 d2 l:Addr) (sg st:Nw) (as:NA) (rs:Yaa) (m:Nat) (ps:List TR) (_:vs=[.ref a,.ref l]) (_:gX R CG CT H a dx g dg d1 d2 sg st as rs m) (_:qN H l ps) (_:(∀p∈ps,qd st rs m p/\0<n/\p.2.2.2<(n:Int))) (_:ps.length<=2) (_:(∀p1 p2,ps=[p1,p2]->p1.2.2.2<=7\/p2.2.2.2<=7)) (_:∀H',b8 d1 d2 H H'->dY st rs m H' d1 d2->Q (.int (aR (CN rs) ps:Nat)) H')
theorem y_{t u:TS}{σ:St}(h:∀t' u',t'=t->u'=u->Dl c t' u' D σ H):Dl c t u D σ H:=h t u rfl rfl
theorem qd.row{st:Nw}(d:qd st rs m p)(h6:m<=6):fN p:=⟨d.r1,by have:=d.rm;omega,d.c1,by have:=d.cm;omega,d.k16⟩
abbrev gx:Stmt:=fu 41 0
inductive fz(K:W.Frag)(vs:List V)(H:Hp)(Q:VK)(_E:XK):Prop
 |mk (a C dx g:Addr) (_:vs=[.ref a,.ref g]) (_:H a=some (.ins C dx [])) (_:mK K C) (_:(aq K C "grammar"/\aq K C "steps"/\aq K C "totals")) (_:∀d1 d2 H',H d1=none->H d2=none->d1≠d2->H' a=some (.ins C dx (IH g d1 d2))->H' d1=some (.dT [])->H' d2=some (.dT [])->bY a H H'->Q .non H')
theorem yn:aw ["self","grammar"] ["self","grammar"] (aj gx):=by walk_at "c"
theorem zN{f:Addr}(F:cF K "__init__" "TreeRows.__init__" gx f fd)(nb:NB mg):↑aS 1 f fd ["self","grammar"] (fz K):=by
 have sc:=yn;walk_at "f"
 ·obtain⟨a,C,k,g,rfl,O,B,⟨M,L,J⟩,q⟩:=h
  refine⟨_,(af (dC (al 0) (al 1) rfl)
   (af (dC (al 0) xQ rfl)
   (ai (dC (al 0) xQ rfl)))),?_⟩
  symm;refine⟨C,k,_,O,B,M,by simp,h1 _ _ ?_⟩;clear h1;have n:bY a H (ay H a (.ins C k [("grammar",.ref g)])):=(bY.of (az.refl _)).put;have v:ay H a (.ins C k [("grammar",.ref g)]) a=some (.ins C k [("grammar",.ref g)]):=ad;change B8 _ _ _ _ (ay H a (.ins C k [("grammar",.ref g)]));generalize ay H a (.ins C k [("grammar",.ref g)])=H2 at n v ⊢;symm;intro b j;have o:b≠a:=λe=>by rw[e,v]at j;cases j
  have I:¬ (("grammar":Str)="steps"):=by decide +kernel
  have U:cU "steps" (V.ref b) [(("grammar":Str),V.ref g)]=[(("grammar":Str),V.ref g),(("steps":Str),V.ref b)]:=by simp only[cU,q06 I]
  refine⟨C,k,_,ae j _ _ v,B,L,by simp,?_⟩;rw[U];refine h1 _ _ ?_;clear h1;have S:H b=none:=by
   cases e:H b with
   |none=>rfl
   |some u=>rw[n _ _ o e]at j;cases j
  have m:bY a H (ay (ay H2 b (.dT [])) a (.ins C k [("grammar",.ref g),("steps",.ref b)])):=(n.then (ae j)).put;have r:ay (ay H2 b (.dT [])) a (.ins C k [("grammar",.ref g),("steps",.ref b)]) a=some (.ins C k [("grammar",.ref g),("steps",.ref b)]):=ad;have p:ay (ay H2 b (.dT [])) a (.ins C k [("grammar",.ref g),("steps",.ref b)]) b=some (.dT []):=by rw[ao o,ad]
  generalize ay (ay H2 b (.dT [])) a (.ins C k [("grammar",.ref g),("steps",.ref b)])=H3 at m r p ⊢;ext;intro x c;have l:x≠a:=λe=>by rw[e,r]at c;cases c
  have y:b≠x:=λe=>by rw[<- e,p]at c;cases c
  have G:¬ (("grammar":Str)="totals"):=by decide +kernel
  have D:¬ (("steps":Str)="totals"):=by decide +kernel
  have T:cU "totals" (V.ref x) [(("grammar":Str),V.ref g),(("steps":Str),V.ref b)]=IH g b x:=by unfold IH;simp only[cU,q06 G,q06 D]
  refine⟨C,k,_,ae c _ _ r,B,J,by simp,?_⟩;rw[T];have R:H x=none:=by
   cases e:H x with
   |none=>rfl
   |some u=>rw[m _ _ l e]at c;cases c
  exact q b x _ S R y ad (by rw[ao o,ao y];exact p) (by rw[ao l,ad]) ((m.then (ae c)).put)
theorem xp(f:TR->Nat)(ps:List TR)(p:TR):aR f (ps++[p])=aR f ps*f p:=by
 unfold aR;rw[List.foldl_append];rfl
abbrev bw:Stmt:=fu 41 4
theorem k7:aw ["self","rows","many","row"] ["self","rows"] (aj bw):=by walk_at "c"
theorem fZ{f CT CN_:Addr}{n:Nat}(F:cF K "many_together" "TreeRows.many_together" bw f fd)(nb:NB mg)(yah:cg P w K mg base (bG P w) (4*n+4) CT "many_in" ["self","row"] (bz R CG CT CN_ n)) :
  aS P w K mg base (bG P w) (4*n+5) f fd ["self","rows"] (cS R CG CT n):=by
 have sc:=k7;walk_at "x"
 ·obtain⟨a,S,g,dg,D,C,l,U,G,as,b,m,ps,rfl,_⟩:=h;rfl
 ·obtain⟨a,S,g,dg,D,C,l,U,G,as,b,m,ps,rfl,o,⟨bs,Y,O,M⟩,Z,h2,h7,q⟩:=h
  have hu:=hr.units;refine⟨_,(af (q01 2 sc.nd ah)
   (af (bP PassesOwn.leaving rfl (cK (al 1)) (q02 3 sc.nd)
   (ai (bC (aK (bc.m0 jx) (al 2) ah (aN _))
   (ai (q01 2 sc.nd (au (bc.m1 fA) (al 2) (bS yah (hr.mono ⋯) (aY λ_ _ _ h=>h) (al 0) (aa (al 3) ac)))))
   aL)))
   (ai (aF (al 2))))),?_⟩
  symm;refine h1 _ _ ?_;grind;refine⟨⟨_,aW.of Y⟩,?_⟩;refine dO (xs:=bs.map V.ref) (λi σ p=>b8 D C H p/\i<=bs.length/\dY G b m p D C/\∃x,σ=[some (V.ref a),some (V.ref l),some (V.int (aR (CN b) (ps.take i):Nat)),x]) ⟨λ_ _ _ _ e=>e,MX _,o.mm,_,rfl⟩ (λi σ p _ h=>aW.of ((o.kp h.1).lst Y)) ?_ ?_
  ·rintro i x σ p J ⟨sd,hi,mm,y,rfl⟩
   have k:i<bs.length:=by have:=(My.mp J).1;rwa [MA]at this
   rw[MC,Mx k]at J;cases J;have v:ps[i]?=some (ps[i]'⋯):=Mx ⋯;have hb:=M i bs[i] _ (Mx k) v;obtain⟨T,n0,pn⟩:=Z _ (MH (show i<ps.length by omega));have u:aR (CN b) (ps.take (i+1))=aR (CN b) (ps.take i)*CN b (ps[i]'⋯):=by rw[q0D,v];exact xp _ _ _
   have r:=o.next sd mm;ext
   by_cases h0:0<aR (CN b) (ps.take i)
   ·rw[q07 ⋯]
    refine⟨S,_,r.at_,rfl,a,S,g,dg,D,C,bs[i],U,G,as,b,m,_,rfl,r,(o.kp sd).tup hb,.inl ⟨T,n0,pn,λH2 s2 I=>⟨_,rfl,?_,sd.trans s2,k,I,?_⟩⟩⟩
    ·have L:i=0\/i=1:=by omega
     rcases L with rfl | rfl
     ·left;simp[aR]
     ·obtain⟨j,c,rfl⟩:∃j c,ps=[j,c]:=by
       match ps,h2,(show 1<ps.length by omega) with
       | [j,c],_,_=>exact⟨j,c,rfl⟩
      have B:=(Z j q0B).1;rcases h7 j c rfl with h | h
      ·left
       have:=o.sm j B.rm B.cm h;have e1:aR (CN b) (List.take 1 [j,c])=CN b j:=by show 1*CN b j=_;rw[Nat.one_mul]
       rw[e1];omega
      ·right
       have:CN b c<2 ^ 64:=o.sm c T.rm T.cm h;show _<((CN b c:Nat):Int)/\((CN b c:Nat):Int)<_;omega
    ·rw[u];push_cast;rfl
   ·rw[q06 ⋯]
    refine⟨sd,k,mm,?_⟩;rw[u,show aR (CN b) (ps.take i)=0 by omega,Nat.zero_mul]
  ·rintro σ p ⟨sd,_,mm,y,rfl⟩
   refine h1 _ _ ?_;ext;rw[MA,O,Na];exact q p sd mm
abbrev cy:Stmt:=fu 41 3
theorem ql:aw ["self","row","numbers","size","steps","number","rows","many"] ["self","row"] (aj cy):=by walk_at "c"
theorem jW{f CT yaa:Addr}{n:Nat}{t1:Tok}(F:cF K "reckoned" "TreeRows.reckoned" cy f fd)(nb:NB mg)(yai:mg "MOST"=some (.int 6 t1))(ct:fQ K CT)(nt:aq K CT "grammar"/\aq K CT "steps"/\aq K CT "totals")
  (yal:↑dU 1 "fewest" ["size"] (iM K)) (yap:cg P w K mg base (bG P w) 1 CG "numbers_of" ["self","name"] (cz R CG yaa)) (yag:↑cg 1 CG "rule" ["self","k"] (cr R CG)) (yao:↑pO 3 "part_rows" (lL R))
  (ycd:cg P w K mg base (bG P w) (4*n+5) CT "many_together" ["self","rows"] (cS R CG CT n)) :
  aS P w K mg base (bG P w) (4*n+6) f fd ["self","row"] (fk R CG CT yaa (n+1)):=by
 have sc:=ql;walk_at "x"
 ·obtain⟨a,dx,g,dg,d1,d2,b,sg,st,as,k,m,p,rfl,_⟩:=h;rfl
 ·obtain⟨a,dx,g,dg,d1,d2,b,sg,st,as,k,m,p,rfl,D,hb,cs⟩:=h
  have hu:=hr.units;refine⟨_,(af (q01 2 sc.nd (bS yap (hr.mono ⋯) (aY λ_ _ _ h=>h) (bJ (al 0) rfl) (aa (aE aC (al 1) ah (λ_ _=>rfl)) ac)))
   (af (q01 3 sc.nd (cJ Fy (al 1) (cW ah) (cW ah)))
   (af (bC (PW.pt (iO (aK (bc.m0 jx) (av (CO rfl) rfl nb.max Ha (aa (al 3) ac)) (b_ (v:=.int 6) rfl yai ⟨_,rfl⟩) (aN _)) (fH (aK (bc.m0 tS) (aE aC (al 1) ah (λ_ _=>rfl)) (aJ (CX:=bG P w) yal.lift (hr.mono ⋯) rfl bt (aa (al 3) ac)) (aN _)))))
   (ai (aF (bK ac)))
   aL)
   (af (q01 4 sc.nd (bK ac))
   (af (bP PassesOwn.leaving rfl (cK (al 2)) (q02 5 sc.nd)
   (ai (bP PassesOwn.leaving rfl (cK (Ax yao (hr.mono ⋯) ba (bS yag (hr.mono ⋯) ba (bJ (al 0) rfl) (aa (al 5) ac)) (aa (aE aC (al 1) ah (λ_ _=>rfl)) (aa (aE aC (al 1) ah (λ_ _=>rfl)) (aa (aE aC (al 1) ah (λ_ _=>rfl)) ac))))) (q02 6 sc.nd)
   (af (q01 7 sc.nd (bS ycd (hr.mono ⋯) (aY λ_ _ _ h=>h) (al 0) (aa (al 6) ac)))
   (ai (bC (aK (bc.m0 jx) (al 7) ah (aN _))
   (ai (bH (q03 (al 4) (aa (aG (aa (al 5) (aa (al 6) (aa (al 7) ac)))) ac))))
   aL))))))
   (ai (aF (al 4)))))))),?_⟩
  symm;obtain⟨lk,pn_,tt,h8,_⟩:=id D.gr;refine⟨CT,dx,_,D.at_,ct.cl,nt.1,_,rfl,g,rfl,dg,_,h8,rfl,_,aZ.of hb,_,rfl,g,dg,sg,st,as,k,tx p.1,rfl,D.gr,?_,?_⟩
  rotate_left
  ·intro a1
   rcases cs with⟨dp,_⟩ | ⟨_,nn,ex⟩
   ·obtain⟨y,hy,e⟩:=Ng.mp dp.nm
    rw[<- e,(AO hy).1]at a1;cases a1
   ·exact ex
  intro ns c4 l1 H1 hl1 f4 s1;rcases cs with⟨dp,_,pn,q⟩ | ⟨_,nn,ex⟩
  rotate_left
  ·rw[o6 nn]at c4
   cases c4
  obtain⟨y,hy,ey⟩:=Ng.mp dp.nm;have e4:ns=bW (tx p.1) k:=by
   have:=(AO hy).1;rw[ey,c4]at this;exact q0P this
  subst e4;have h7:∀i∈bW (tx p.1) k,_:=λi hi=>gz hi;have hixl:=uv (tx p.1) k;have m6:=D.m6;have a4:=dp.r1;have drm:=dp.rm;have a5:=dp.c1;have dcm:=dp.cm;have dk:=dp.k16;refine h1 _ _ ?_;grind;refine⟨_,aZ.of (s1 _ _ hb),λps H2 G s2=>h1 _ _ ?_⟩;clear h1;have G:aZ K H2 ps [V.int (p.2.1:Int),V.int (p.2.2.1:Int)]:=G;have S:=s1.trans s2;symm;refine⟨_,_,G,?_⟩;rw[q06 (by split<;>omega)];refine⟨_,aZ.of (S _ _ hb),_,rfl,ps,p.2.1,p.2.2.1,rfl,G,⋯,⋯,_,rfl,_,rfl,?_⟩
  by_cases O:p.2.2.2<fw p.2.1 p.2.2.1
  ·rw[q07 O]
   exact⟨MX _,λl hl=>q l _ (b8.of (S.trans (ae hl))) (D.up (S.trans (ae hl))).mm (by unfold a_;rw[q07 O];exact cM.nil (S.free hl) ad)⟩
  rw[q06 O];refine h1 _ _ ?_;clear h1;have k1:1<=p.2.2.2:=by have:=b6 a4 a5;omega
  symm;refine⟨MX _,λC a3=>h1 _ _ ?_⟩;clear h1;have f5:H C=none:=S.free a3;have g1:l1≠C:=λe=>by rw[<- e,s2 _ _ f4]at a3;cases a3
  have b1:=S.trans (ae (o:=.lst []) a3);have e3:ay H2 C (.lst []) C=some (.lst []):=ad;have d0:=ae (o:=.lst []) a3 _ _ (s2 _ _ f4);generalize ay H2 C (.lst [])=H3 at b1 e3 d0 ⊢;have g7:a_ k p=(bW (tx p.1) k).flatMap (dA k p):=by unfold a_;rw[q06 O]
  symm;refine⟨⟨_,aW.of d0⟩,?_⟩;refine dO (xs:=x5 (bW (tx p.1) k)) (λi σ H'=>b8 d1 d2 H H'/\i<=(bW (tx p.1) k).length/\dY st k m H' d1 d2/\H' l1=some (.lst (x5 (bW (tx p.1) k)))/\cM H H' C (((bW (tx p.1) k).take i).flatMap (dA k p))/\∃x y z,σ=[some (V.ref a),some (V.ref b),some (V.ref l1),some (V.ref ps),some (V.ref C),x,y,z]) ⟨.of b1,MX _,(D.up b1).mm,d0,cM.nil f5 e3,_,_,_,rfl⟩ (λi σ H' _ h=>aW.of h.2.2.2.1) ?_ ?_
  ·rintro i x σ H4 hx ⟨sd,hi,mm,i1,T,x1,y1,z1,rfl⟩
   have U:i<(bW (tx p.1) k).length:=by have:=(My.mp hx).1;rw[x5,MA]at this;exact this
   rw[x5,MC,Mx U]at hx;cases hx;obtain⟨qr,a0,hqn⟩:=h7 _ (MH U);have b3:((bW (tx p.1) k).take (i+1)).flatMap (dA k p)=((bW (tx p.1) k).take i).flatMap (dA k p)++dA k p ((bW (tx p.1) k)[i]'U):=by
    rw[q0D,Mx U,List.flatMap_append];simp
   have e6:(((bW (tx p.1) k).take i).flatMap (dA k p)).length<=75*i:=by
    rw[j5];refine M6 (i8 _ 75 _ λj hj=>?_) (by rw[Nb];omega);obtain⟨qj,d6,_⟩:=gz (q0F hj);obtain⟨j4,jc,_⟩:=D.gc qj (MD d6);unfold dA;rw[d6];exact M6 (List.length_filterMap_le _ _) (jr j4 jc a4 a5 ⋯ ⋯ dk)
   generalize((bW (tx p.1) k).take i).flatMap (dA k p)=ms at T b3 e6;generalize(bW (tx p.1) k)[i]'U=num at a0 b3;have a6:=D.next sd mm;obtain⟨lk4,pn4,tt4,h9,hk4,f3,_⟩:=id a6.gr;have e7:num<as.length:=by rw[f3.1];exact(My.mp a0).1
   have c2:qr∈k:=MD a0;obtain⟨q4,qc,f6⟩:=D.gc qr c2;have g8:=f3.2 num _ qr (Mx e7) a0;have i0:=(D.kp sd).tup hb;ext;refine⟨CT,dx,_,a6.at_,ct.cl,nt.1,_,rfl,g,rfl,dg,_,h9,rfl,g,dg,sg,st,as,k,num,as[num],rfl,a6.gr,Mx e7,?_⟩;refine FJ i0 q4 g8 a4 ⋯ a5 ⋯ dk k1 qc f6 (D.gt qr c2) λl2 H5 h5 e9 s5=>?_;have f0:dA k p num=(cG qr p.2.1 p.2.2.1 p.2.2.2).filterMap λps=>if 0<aR (CN k) ps then some (num,ps,aR (CN k) ps) else none:=by unfold dA;rw[a0]
   have d7:=jr q4 qc a4 a5 (by omega:p.2.1<=6) (by omega:p.2.2.1<=6) dk;have e0:∀ps∈cG qr p.2.1 p.2.2.1 p.2.2.2,(∀p'∈ps,qd st k m p'/\0<n/\p'.2.2.2<(n:Int))/\ps.length<=2/\∀p1 p2,ps=[p1,p2]->p1.2.2.2<=7\/p2.2.2.2<=7:=λps G=>by
    refine⟨λp' h3=>?_,?_⟩
    ·obtain⟨d',lt'⟩:=dp.part D.gc c2 k1 G h3
     exact⟨d',by push_cast at pn;omega,by push_cast at pn;omega⟩
    ·rcases eY q4 a4 a5 G with rfl | ⟨p',rfl,_⟩ | ⟨_,z,f,sz,f1,f2,rfl⟩
     ·exact⟨by simp,λp1 p2 e=>by cases e⟩
     ·exact⟨by simp,λp1 p2 e=>by cases e⟩
     ·refine⟨by simp,λp1 p2 e=>?_⟩
      cases e;show f<=7\/p.2.2.2-qr.2.c-f<=7;omega
   have e8:=e9;change fP H4 H5 l2 (cG qr p.2.1 p.2.2.1 p.2.2.2) at e8;clear e9;obtain⟨r,d4,d5,b4⟩:=e8;generalize cG qr p.2.1 p.2.2.1 p.2.2.2=pss at f0 d7 e0 d5 b4;have a2:∃xs,H4 C=some (.lst xs):=let ⟨_,ts,h,_⟩:=T;⟨_,h⟩
   have g0:l2≠C:=λe=>by obtain⟨xs,h⟩:=a2;rw[<- e,h5]at h;cases h
   refine⟨l2,rfl,⟨_,aW.of d4⟩,?_⟩;refine dO (xs:=r.map V.ref) (λj σ H'=>b8 d1 d2 H H'/\j<=r.length/\dY st k m H' d1 d2/\H' l1=some (.lst (x5 (bW (tx p.1) k)))/\H' l2=some (.lst (r.map V.ref))/\(∀(i:Nat) a ps,r[i]?=some a->pss[i]?=some ps->qN H' a ps)/\cM H H' C (ms++(pss.take j).filterMap λps=>if 0<aR (CN k) ps then some (num,ps,aR (CN k) ps) else none)/\∃y z,σ=[some (V.ref a),some (V.ref b),some (V.ref l1),some (V.ref ps),some (V.ref C),some (V.int (num:Int)),y,z]) ⟨sd.trans (.of s5),MX _,(a6.up s5).mm,s5 _ _ i1,d4,λi a ps e1 e2=>(b4 i a ps e1 e2).2,by rw[Nq];simpa using T.kp (.of s5),_,_,rfl⟩ (λj σ H' _ h=>aW.of h.2.2.2.2.1) ?_ ?_
   ·rintro j x σ H6 hx ⟨Y,hj,b2,a8,c0,M,J,y2,z2,rfl⟩
    have B:j<r.length:=by have:=(My.mp hx).1;rwa [MA]at this
    rw[MC,Mx B]at hx;cases hx;have c3:pss[j]?=some (pss[j]'⋯):=Mx ⋯;have c9:=M j _ _ (Mx B) c3;obtain⟨f9,f8,f7⟩:=e0 _ (MH (show j<pss.length by omega));have e5:=λi a ps e1 e2=>(b4 i a ps e1 e2).1;have a9:=D.next Y b2;have hfl:((pss.take j).filterMap λps=>if 0<aR (CN k) ps then some (num,ps,aR (CN k) ps) else none).length<=j:=M6 (List.length_filterMap_le _ _) (by rw[Nb];omega);have L:((pss.take (j+1)).filterMap λps=>if 0<aR (CN k) ps then some (num,ps,aR (CN k) ps) else none)=((pss.take j).filterMap λps=>if 0<aR (CN k) ps then some (num,ps,aR (CN k) ps) else none)++(if 0<aR (CN k) (pss[j]'⋯) then[(num,pss[j]'⋯,aR (CN k) (pss[j]'⋯))] else[]):=by
     rw[q0D,c3,List.filterMap_append]
     congr 1
     show List.filterMap _ [_]=_
     by_cases h0:0<aR (CN k) (pss[j]'⋯)<;>simp[h0]
    symm;refine⟨dx,_,a9.at_,rfl,a,dx,g,dg,d1,d2,_,sg,st,as,k,m,_,rfl,a9,c9,f9,f8,f7,λH7 b0 d3=>h1 _ _ ?_⟩;clear h1;generalize hmany:aR (CN k) (pss[j]'⋯)=many at L;generalize hpsj:pss[j]'⋯=psj at L c9;have u:=a9.kp b0;have I:=J.kp u;ext
    by_cases h0:0<many
    ·rw[q07 ⋯]
     obtain⟨xs7,Z⟩:∃xs,H7 C=some (.lst xs):=let ⟨_,ts,h,_⟩:=I;⟨_,h⟩
     have g5:=I.len Z;have n24:=D.n24;refine⟨.inl ⟨rfl,_,aW.of Z⟩,ak nofun,λp1 h2=>?_⟩;have t1:=ae (o:=.tup [V.int (num:Int),V.ref r[j],V.int (many:Int)]) h2;have e1:ay H7 p1 (.tup [V.int (num:Int),V.ref r[j],V.int (many:Int)]) p1=some (.tup [V.int (num:Int),V.ref r[j],V.int (many:Int)]):=ad;generalize ay H7 p1 (.tup [V.int (num:Int),V.ref r[j],V.int (many:Int)])=H8 at t1 e1 ⊢;have a7:=t1 _ _ Z;obtain⟨m1,m2,c6,c5,h4,g6⟩:=d3;have g3:d1≠C:=λe=>by rw[e,Z]at c6;cases c6
     have g2:d2≠C:=λe=>by rw[e,Z]at c5;cases c5
     have hz:=(e5 j _ _ (Mx B) c3);have g4:r[j]≠C:=λe=>by
      obtain⟨xs,h⟩:=a2;rw[e,h]at hz;cases hz.1
     refine⟨_,a7,by rw[g5,MV];exact bq ⋯,?_,B,⟨m1,m2,by rw[ao g3];exact t1 _ _ c6,by rw[ao g2];exact t1 _ _ c5,h4,(g6.kp (.of t1)).kz (wt.put a7)⟩,by rw[ao g1];exact t1 _ _ (u.lst a8),by rw[ao g0];exact t1 _ _ (u.lst c0),λi a ps x1 x2=>(((M i a ps x1 x2).kp u).up t1).put ?_ ⟨_,a7⟩,?_⟩
     ·intro x o n1 n2 e
      rw[ao (λz=>by rw[z,f5]at e;cases e)];exact t1 _ _ (b0 x o n1 n2 (Y x o n1 n2 e))
     ·intro z
      have hz:=(e5 i a ps x1 x2).1;obtain⟨xs,h⟩:=a2;rw[z,h]at hz;cases hz
     ·rw[L,q07 h0,<- M_]
      exact(I.kp (.of t1)).app (x:=(num,psj,many)) a7 e1 ((c9.kp u).up t1) ⟨D.fresh sd mm hz.1,g4⟩
    ·rw[q06 ⋯]
     refine⟨Y.trans b0,B,d3,u.lst a8,u.lst c0,λi a ps x1 x2=>(M i a ps x1 x2).kp u,?_⟩;rw[L,q06 h0,M9];exact I
   ·rintro σ H6 ⟨Y,_,b2,a8,c0,M,J,y2,z2,rfl⟩
    refine⟨Y,U,b2,a8,?_,_,_,_,rfl⟩;rw[MA,d5,Na]at J;rw[b3,f0];exact J
  ·rintro σ H4 ⟨sd,_,mm,_,T,x1,y1,z1,rfl⟩
   refine h1 _ _ ?_;ext;have h6:(x5 (bW (tx p.1) k)).length=(bW (tx p.1) k).length:=by rw[x5,MA]
   rw[h6,Na,<- g7]at T;exact q C H4 sd mm T
theorem Bm{z:Str}{k:List df}(h:(Sum.inr z::k)∈BH zs):z∈zs:=by
 unfold BH at h;obtain⟨y,a,h⟩:=List.mem_flatMap.mp h;obtain⟨r,_,h⟩:=List.mem_flatMap.mp h;obtain⟨c,_,h⟩:=List.mem_flatMap.mp h;obtain⟨j,_,e⟩:=Ng.mp h;have:=(List.cons.inj e).1;cases this;exact a
theorem qp.bad{st:Nw}{m1:List (List df×V)}{p:TR}(h:qp st rs m m1 m2)(hn:tx p.1∉(bf (tx st) rs).map (·.1)):cA m1 (du p)=none:=by
 cases e:cA m1 (du p) with
 |none=>rfl
 |some v=>exact q0N (Bm (h.k1 _ (Gh e))) hn
theorem kE{kvs:List (List df×V)}(hn:(kvs.map (·.1)).Nodup):((cQ kvs k v).map (·.1)).Nodup/\∀x,x∈(cQ kvs k v).map (·.1)->x=k\/x∈kvs.map (·.1):=by
 cases e:cA kvs k with
 |none=>exact⟨Ft v hn e,λx b=>by
   rw[qM v e,ML,MM]at b;rcases b with h | h
   ·exact .inr h
   ·exact .inl (by simpa using h)⟩
 |some u=>
  have g:(cQ kvs k v).map (·.1)=kvs.map (·.1):=by
   unfold cQ;have c:(kvs.any λa=>decide (a.1=k))=true:=by rw[fS,e];rfl
   rw[q07 c,MN];refine q0H λa _=>?_;show(if a.1=k then(a.1,v) else a).1=a.1
   split<;>rfl
  rw[g];exact⟨hn,λx b=>.inr b⟩
theorem qp.put{st:Nw}{rs:Yaa}{m1:List (List df×V)}{p:TR}{v:V}(h:qp st rs m m1 m2)(d:qd st rs m p)(h6:m<=6):qp st rs m (cQ m1 (du p) v) (cQ m2 (du p) (.int (CN rs p:Nat))):=by
 have g:=ED d h6;refine⟨(kE h.n1).1,(kE h.n2).1,λk b=>?_,λk b=>?_,λc a=>?_⟩
 ·rcases(kE h.n1).2 k b with e | e
  ·rw[e];exact g
  ·exact h.k1 k e
 ·rcases(kE h.n2).2 k b with e | e
  ·rw[e];exact g
  ·exact h.k2 k e
 ·rw[nv]at a ⊢
  by_cases e:du c=du p
  ·rw[q07 e,xJ e]
  ·rw[q06 e]at a ⊢
   exact h.ok c a
theorem w_:∀ms:List Nat,(ms.map fun(x:Nat)=>(x:Int)).sum=((ms.sum:Nat):Int)
 | []=>rfl
 |x::ms=>by rw[M5,List.sum_cons,List.sum_cons,w_ ms];push_cast;rfl
abbrev cw:Stmt:=fu 41 2
theorem qq:aw ["self","row","steps"] ["self","row"] (aj cw):=by walk_at "c"
theorem jR{f CT yaa:Addr}{n:Nat}(F:cF K "steps_of" "TreeRows.steps_of" cw f fd)(nb:NB mg)(yan:mg "sum"=none)(ct:fQ K CT)(nt:aq K CT "grammar"/\aq K CT "steps"/\aq K CT "totals")
  (yd8:cg P w K mg base (bG P w) (4*n+6) CT "reckoned" ["self","row"] (fk R CG CT yaa (n+1))) :
  aS P w K mg base (bG P w) (4*n+7) f fd ["self","row"] (bX R CG CT yaa (n+1)):=by
 have sc:=qq;walk_at "x"
 ·obtain⟨a,dx,g,dg,u,C,b,sg,st,as,j,m,p,rfl,_⟩:=h;rfl
 ·obtain⟨a,dx,g,dg,u,C,b,sg,st,as,j,m,p,rfl,c,hb,cs⟩:=h
  have hu:=hr.units;refine⟨_,(af (bC (D7 (tz (Nd (Ni (by decide:1<=64) _) hu) (al 1) (bJ (al 0) rfl)) (by with_unfolding_all rfl))
   (af (q01 2 sc.nd (bS yd8 (hr.mono ⋯) (aY λ_ _ _ h=>h) (al 0) (aa (al 1) ac)))
   (af (HU (AE (Nd (Ni (by decide:1<=64) _) hu) (bJ (al 0) rfl) (al 1) (al 2) rfl))
   (ai (AE (Nd (Ni (by decide:1<=64) _) hu) (bJ (al 0) rfl) (al 1) (av (nV rfl) rfl yan y6 (aa (cH ["number","rows","many"] [] rfl (bE.of (by kernel_rfl)) (by kernel_rfl) (cK (al 2))
    (λ_ _ _ _=>(vA (K:=K) (n:=3) rfl rfl (aM (aB (i:=0) (by show(["number","rows","many"]:List Str).Nodup;decide +kernel) rfl (Or.inl rfl)) (aM (aB (i:=1) (by show(["number","rows","many"]:List Str).Nodup;decide +kernel) rfl (Or.inl rfl)) (aM (aB (i:=2) (by show(["number","rows","many"]:List Str).Nodup;decide +kernel) rfl (Or.inl rfl)) cY))))) (λ_ _ _ _=>ce) (λ_ _ _ _=>(al 2))) ac)) rfl))))
   aL)
   (ai (aF (va (Nd (Ni (by decide:1<=64) _) hu) (bJ (al 0) rfl) (al 1) (λ_ _=>rfl))))),?_⟩
  obtain⟨m1,m2,b3,a2,b1,e0⟩:=id c.mm;have a3:H b=some (.tup ((du p).map kV)):=hb;refine am λN1 h1=>?_;refine y_ λtb1 tb2 e5 e3=>?_;ext;refine⟨CT,dx,_,c.at_,ct.cl,nt.2.1,_,rfl,u,rfl,cA m1 (du p),pS.t b3 a3,?_⟩;have c3:∀J,(∃l,pS J u (V.ref b) (some (V.ref l))/\kD J l (a_ j p))->b8 u C H J->dY st j m J u C->qd st j m p->(∃m2,J C=some (.dT m2)/\cA m2 (du p)=some (.int (CN j p:Nat)))->∀x,N1 [some (V.ref a),some (V.ref b),x] J:=λJ ⟨l,hv,S⟩ sd mm T a2 x=>by
   refine h1 _ _ ?_;ext;refine⟨CT,dx,_,(c.kp sd).ins c.at_,ct.cl,nt.2.1,_,rfl,u,rfl,_,hv,?_⟩;rcases cs with⟨_,_,_,q⟩ | ⟨_,nn,_⟩
   ·exact q l J sd mm a2 S
   ·exact q0N T.nm nn
  cases hv:cA m1 (du p) with
  |some v=>
   rw[q06 (by simp)];rw[e3];rcases cs with⟨T,n0,pn,q⟩ | ⟨_,nn,ex⟩
   ·ext
    obtain⟨l,rfl,S⟩:=e0 p v hv;refine c3 H ⟨l,by rw[<- hv];exact pS.t b3 a3,S⟩ (λ_ _ _ _ e=>e) c.mm T ⟨m2,a2,b1.ok p (by rw[hv];rfl)⟩ _
   ·rw[b1.bad nn]at hv;cases hv
  |none=>
   rw[q07 (by simp)];rw[e5];ac_nf;refine⟨dx,_,c.at_,rfl,a,dx,g,dg,u,C,b,sg,st,as,j,m,p,rfl,c,hb,?_⟩;rcases cs with⟨T,n0,pn,q⟩ | ⟨_,nn,ex⟩
   rotate_left
   ·exact .inr ⟨Nat.succ_pos _,nn,ex⟩
   refine .inl ⟨T,n0,pn,λl I a1 a5 d7=>h2 _ _ ?_⟩;clear h2;have c5:=c.next a1 a5;obtain⟨r,M,Z,b2,Y,b0⟩:=id a5;have d0:=c.kp a1;have e2:I b=some (.tup ((du p).map kV)):=d0.tup hb;have c0:=Y.len c.nz;ac_nf;have a7:Kp I (ay I u (.dT (cQ r (du p) (V.ref l)))):=Kp.put Z;obtain⟨ls,b4,a0,S⟩:=(d7.kp a7).known;refine⟨CT,dx,_,c5.at_,ct.cl,nt.2.1,_,rfl,u,rfl,_,A5.t Z e2 c0.1,ls,b4,λos=>h2 _ _ ?_⟩;clear h2;have S:=S os;have a6:wt I (cZ (ay I u (.dT (cQ r (du p) (V.ref l)))) ls os):=a7.z.trans wt.frz;have a4:cZ (ay I u (.dT (cQ r (du p) (V.ref l)))) ls os u=some (.dT (cQ r (du p) (V.ref l))):=gw ad (.inr λxs z=>by cases z);have G:cZ (ay I u (.dT (cQ r (du p) (V.ref l)))) ls os C=some (.dT M):=gw (by rw[ao c.ne.symm];exact b2) (.inr λxs z=>by cases z);have L:b8 u C H (cZ (ay I u (.dT (cQ r (du p) (V.ref l)))) ls os):=λx o n1 n2 e=>gw (by rw[ao n1];exact a1 x o n1 n2 e) (.inl λhx=>by rw[a0 x hx]at e;cases e);generalize cZ (ay I u (.dT (cQ r (du p) (V.ref l)))) ls os=H2 at a6 a4 G L S ⊢;clear b4 a0;have c1:=(c.kp L).ins c.at_;have O:=(c.kp L).tup a3;obtain⟨U,o,a8,htl,d6⟩:=id S;have hsl:=oH c.gc (T.row c.m6) c.n24;have a9:=nM c.gc (T.row c.m6);ext;have d5:(U.zip (a_ j p)).map (·.1)=U:=List.map_fst_zip ⋯;have d4:(U.zip (a_ j p)).map (·.2)=a_ j p:=List.map_snd_zip ⋯;have d3:(U.zip (a_ j p)).map (λz=>V.ref z.1)=U.map V.ref:=by rw[<- q0O (List.map V.ref) d5,MN];rfl
   refine⟨⟨_,.inl (.inr ⟨o,a8⟩)⟩,?_⟩;refine fF (as:=U.zip (a_ j p)) (emb:=λz=>V.ref z.1) (f:=λz=>some (V.int (z.2.2.2:Nat))) (λσ=>∃x y z,σ=[x,y,z]) ⟨_,_,_,rfl⟩ (λJ s'=>.inl (.inr ⟨o,by rw[d3];exact s' _ _ a8⟩)) (by rw[q0K];omega) ?_ ?_
   ·rintro i z hz σ J N1' N0 ⟨x,y,w,rfl⟩ sm k1 k0
    have h1:U[i]?=some z.1/\(a_ j p)[i]?=some z.2:=List.getElem?_zip_eq_some.mp hz;obtain⟨rl,e,_⟩:=d6 i z.1 z.2 h1.1 h1.2;ext;exact⟨_,aZ.of (sm _ _ e),rfl,_,_,rfl,_,_,rfl,_,_,rfl,rfl,k1 _ _ _ rfl sm ⟨_,_,_,rfl⟩⟩
   intro H3 s3 lc e1;rw[kL];have c4:(U.zip (a_ j p)).map (λz=>V.int (z.2.2.2:Nat))=(((a_ j p).map λs=>s.2.2).map fun(x:Nat)=>(x:Int)).map V.int:=by
    conv=>rhs;rw[<- d4]
    rw[MN,MN,MN];rfl
   rw[c4];generalize(a_ j p).map (λs=>s.2.2)=ms at a9;have B:=s3.trans (ae (o:=.lst ((ms.map fun(x:Nat)=>(x:Int)).map V.int)) e1);have e4:ay H3 lc (.lst ((ms.map fun(x:Nat)=>(x:Int)).map V.int)) lc=some (.lst ((ms.map fun(x:Nat)=>(x:Int)).map V.int)):=ad;generalize ay H3 lc (.lst ((ms.map fun(x:Nat)=>(x:Int)).map V.int))=H4 at B e4 ⊢;refine⟨_,aW.of e4,CT,dx,_,B _ _ c1,ct.cl,nt.2.2,_,rfl,C,rfl,_,A5.t (B _ _ G) (B _ _ O) c0.2,?_⟩;rw[w_,a9];have c6:b≠C:=λe=>by rw[e,G]at O;cases O
   have c9:wt I (ay H4 C (.dT (cQ M (du p) (V.int (CN j p:Nat))))):=(a6.trans (Kp.of B).z).trans (Kp.put (B _ _ G)).z;have c2:kD (ay H4 C (.dT (cQ M (du p) (V.int (CN j p:Nat))))) l (a_ j p):=(S.kz (Kp.of B).z).kz (Kp.put (B _ _ G)).z;refine c3 _ ⟨l,?_,c2⟩ ((L.trans (.of B)).trans .put2) ⟨_,_,?_,ad,Y.put (v:=V.ref l) T c.m6,?_⟩ T ⟨_,ad,by rw[nv,q07 rfl]⟩ _
   ·have:=pS.t (H:=ay H4 C (.dT (cQ M (du p) (V.int (CN j p:Nat))))) (a:=u) (b:=b) (kvs:=cQ r (du p) (V.ref l)) (k:=du p) (by rw[ao c.ne];exact B _ _ a4) (by rw[ao c6];exact B _ _ O)
    rw[nv,q07 rfl]at this;exact this
   ·rw[ao c.ne];exact B _ _ a4
   ·intro p' v' D
    rw[nv]at D
    by_cases e:du p'=du p
    ·rw[q07 e]at D
     cases D;rw[xJ e];exact⟨l,rfl,c2⟩
    ·rw[q06 e]at D
     exact b0.kz c9 p' v' D
abbrev cu:Stmt:=fu 41 1
theorem lX:aw ["self","row"] ["self","row"] (aj cu):=by walk_at "c"
theorem sN{f CT yaa:Addr}{n:Nat}(F:cF K "many_in" "TreeRows.many_in" cu f fd)(nb:NB mg)(ct:fQ K CT)(nt:aq K CT "grammar"/\aq K CT "steps"/\aq K CT "totals")
  (yak:cg P w K mg base (bG P w) (4*n+7) CT "steps_of" ["self","row"] (bX R CG CT yaa (n+1))) :
  aS P w K mg base (bG P w) (4*n+8) f fd ["self","row"] (bz R CG CT yaa (n+1)):=by
 have sc:=lX;walk_at "x"
 ·obtain⟨a,j,g,C,D,r,b,x,u,G,y,m,p,rfl,_⟩:=h;rfl
 ·obtain⟨a,j,g,C,D,r,b,x,u,G,y,m,p,rfl,e,B,U⟩:=h
  have O:=hr.units;refine⟨_,(af (bH (bS yak (hr.mono ⋯) (aY λ_ _ _ h=>h) (al 0) (aa (al 1) ac)))
   (ai (aF (va (Nd (Ni (by decide:1<=64) _) O) (bJ (al 0) rfl) (al 1) (λ_ _=>rfl))))),?_⟩
  symm;refine⟨j,_,e.at_,rfl,a,j,g,C,D,r,b,x,u,G,y,m,p,rfl,e,B,?_⟩;rcases U with⟨T,L,I,q⟩ | ⟨_,J,S⟩
  rotate_left
  ·exact .inr ⟨Nat.succ_pos _,J,S⟩
  refine .inl ⟨T,L,I,λv Y c l ⟨m2,o,M⟩ _=>h1 _ _ ?_⟩;ext;refine⟨CT,j,_,(e.kp c).ins e.at_,ct.cl,nt.2.2,_,rfl,r,rfl,_,?_,q Y c l⟩;have:=pS.t (k:=du p) o ((e.kp c).tup B);rw[M]at this;exact this
theorem Co{f CT yaa:Addr}(F:cF K "many_in" "TreeRows.many_in" cu f fd):aS P w K mg base (bG P w) 4 f fd ["self","row"] (bz R CG CT yaa 0):=by
 have c:∀{vs:List V} {H:Hp} {Q:VK} {E:XK},¬ bz R CG CT yaa 0 vs H Q E:=λh=>by
  obtain⟨a,dx,g,dg,d1,d2,b,sg,st,as,rs,m,p,_,_,_,⟨_,e,_⟩ | ⟨e,_⟩⟩:=h<;>exact q0N e ⋯
 exact F.okX (k:=3) (sp:=bz R CG CT yaa 0) lX (λvs H Q E h=>q0N h c) (λcdv A outer s H vs Q E hr h=>q0N h c)
theorem jO{CT yaa:Addr}{fd1 fd2 fd3 fd4:ND}{t1:Tok}(F1:cF K "many_in" "TreeRows.many_in" cu f1 fd1)(F2:cF K "steps_of" "TreeRows.steps_of" cw f2 fd2)(F3:cF K "reckoned" "TreeRows.reckoned" cy f3 fd3)(F4:cF K "many_together" "TreeRows.many_together" bw f4 fd4)
  (nb:NB mg) (yan:mg "sum"=none) (yai:mg "MOST"=some (.int 6 t1)) (ct:fQ K CT) (nt:aq K CT "grammar"/\aq K CT "steps"/\aq K CT "totals") (me1:dc K CT "many_in" f1) (me2:dc K CT "steps_of" f2) (me3:dc K CT "reckoned" f3) (me4:dc K CT "many_together" f4)
  (b1:cq K fd1 ["self","row"] []) (b2:cq K fd2 ["self","row"] []) (b3:cq K fd3 ["self","row"] []) (b4:cq K fd4 ["self","rows"] [])
  (yal:↑dU 1 "fewest" ["size"] (iM K)) (yap:cg P w K mg base (bG P w) 1 CG "numbers_of" ["self","name"] (cz R CG yaa)) (yag:↑cg 1 CG "rule" ["self","k"] (cr R CG)) (yao:↑pO 3 "part_rows" (lL R)) :
  ∀n,cg P w K mg base (bG P w) (4*n+4) CT "many_in" ["self","row"] (bz R CG CT yaa n)
 |0=>⟨f1,fd1,Co F1,ct.cl,me1,b1⟩
 |n+1=>by
  have ih:=jO F1 F2 F3 F4 nb yan yai ct nt me1 me2 me3 me4 b1 b2 b3 b4 yal yap yag yao n;have c4:cg P w K mg base (bG P w) (4*n+5) CT "many_together" ["self","rows"] (cS R CG CT n):=⟨f4,fd4,fZ F4 nb ih,ct.cl,me4,b4⟩;have c3:cg P w K mg base (bG P w) (4*n+6) CT "reckoned" ["self","row"] (fk R CG CT yaa (n+1)):=⟨f3,fd3,jW F3 nb yai ct nt yal yap yag yao c4,ct.cl,me3,b3⟩;have c2:cg P w K mg base (bG P w) (4*n+7) CT "steps_of" ["self","row"] (bX R CG CT yaa (n+1)):=⟨f2,fd2,jR F2 nb yan ct nt c3,ct.cl,me2,b2⟩;exact⟨f1,fd1,sN F1 nb ct nt c2,ct.cl,me1,b1⟩
abbrev iw:Stmt:=ij 43
structure oY(st:Nw)(rs:Yaa)(m:Nat):Prop where
 gc:eF rs
 gt:∀q∈rs,0<=q.2.t
 sm:∀p:TR,p.2.1<=m->p.2.2.1<=m->p.2.2.2<=7->CN rs p<2 ^ 64
 m6:m<=6
 n24:rs.length<=24
 nz:(bf (tx st) rs).length<=100
inductive jZ(R:RC)(CG CN_:Addr)(vs:List V)(H:Hp)(Q:VK)(E:XK):Prop
 |mk (g dg:Addr) (sg st:Nw) (as:NA) (rs:Yaa) (m:Nat) (p:TR) (_:vs=[.ref g,.str (tx p.1),.int (p.2.1:Int),.int (p.2.2.1:Int),.int p.2.2.2]) (_:dB R H CG dg g sg st as rs) (_:oY st rs m) (_:((qd st rs m p/\∀H',az H H'->Q (.int (CN rs p:Nat)) H')\/(tx p.1∉(bf (tx st) rs).map (·.1)/\∀H',az H H'->E (.ref CN_) none H')))
theorem rq:aw ["grammar","name","rows","columns","cost"] ["grammar","name","rows","columns","cost"] (aj iw):=by walk_at "c"
theorem qI{f CT yaa:Addr}(F:cF K "count_trees" "count_trees" iw f fd)(nb:NB mg)(ct:fQ K CT)(nt:aq K CT "grammar"/\aq K CT "steps"/\aq K CT "totals")
  (yam:↑lz 1 "TreeRows" CT ["self","grammar"] (fz K)) (yah:cg P w K mg base (bG P w) 72 CT "many_in" ["self","row"] (bz R CG CT yaa 17)) :
  aS P w K mg base (bG P w) 73 f fd ["grammar","name","rows","columns","cost"] (jZ R CG yaa):=by
 have sc:=rq;walk_at "x"
 ·obtain⟨g,M,r,n,O,B,m,p,rfl,_⟩:=h;rfl
 ·obtain⟨g,M,r,n,O,B,m,p,rfl,gr,ok,cs⟩:=h
  have hu:=hr.units;refine⟨_,(ai (aF (bS yah (hr.mono nofun) (aY λ_ _ _ h=>h) (gl yam (hr.mono nofun) rfl ba (aa (al 0) ac)) (aa (aG (aa (al 1) (aa (al 2) (aa (al 3) (aa (al 4) ac))))) ac)))),?_⟩;ext;intro x j S G D;have a:az H (ay (ay H j (.own x)) x (.ins CT j [])):=(ae G).trans (ae (by rw[ao (Ne.symm D)];exact S));refine⟨x,CT,j,g,rfl,ad,ct.cl,nt,λZ Y H2 f1 f2 C T L J sx=>⟨rfl,j,_,T,rfl,ak nofun,λb hb=>?_⟩⟩;have s2:az H H2:=λy u e=>sx y u (aI e S) (a y u e);have l:=ae (o:=.tup (b5 p)) hb;have c:=s2.trans l;have te:gX R CG CT (ay H2 b (.tup (b5 p))) x j g M Z Y r n O B m:=⟨l _ _ T,C,gr.up c,ok.gc,ok.gt,ok.sm,ok.m6,ok.n24,ok.nz,[],[],l _ _ L,l _ _ J,⟨List.nodup_nil,List.nodup_nil,(λk h=>nomatch h),(λk h=>nomatch h),(λp h=>by cases h)⟩,λp v h=>by cases h⟩;refine⟨x,j,g,M,Z,Y,b,r,n,O,B,m,p,rfl,te,ad,?_⟩;rcases cs with⟨U,q⟩ | ⟨nn,I⟩
  ·exact .inl ⟨U,nofun,by have:=U.k16;omega,λH4 sd mm=>q H4 λy u e=>sd y u (λz=>by rw[z,a.free f1]at e;cases e) (λz=>by rw[z,a.free f2]at e;cases e) (c y u e)⟩
  ·exact .inr ⟨nofun,nn,I _ c⟩
theorem yx{B:Nat}{f:TR->Nat}{q:Nat×RV}{r c:Nat}{k:Int}{ps:List TR}(h4:q.1<4)(hq:1<=q.2.c)(hr:1<=r)(hc:1<=c)(hk:1<=k)(h:ps∈cG q r c k)(hf:∀p∈ps,f p<=2 ^ (B*p.2.2.2.toNat)):aR f ps<=2 ^ (B*(k-1).toNat):=by
 have mono:∀{a b:Nat},a<=b->2 ^ (B*a)<=2 ^ (B*b):=λh=>Nat.pow_le_pow_right nofun (Nat.mul_le_mul_left _ h);rcases eY h4 hr hc h with rfl | ⟨p,rfl,e1,e2,e3⟩ | ⟨_,z,x,sz,f1,f2,rfl⟩
 ·exact Nat.one_le_two_pow
 ·have h1:=hf p q0B
  show 1*f p<=_;rw[Nat.one_mul];exact M6 h1 (mono ⋯)
 ·have g1:=b6 sz.a sz.b
  have g2:=b6 sz.d sz.e;have h1:=hf _ q0B;have h2:=hf _ (MP _ q0B);show 1*f _*f _<=_;rw[Nat.one_mul];refine M6 (Nat.mul_le_mul h1 h2) ?_;rw[<- Nat.pow_add,<- Nat.mul_add];exact mono (by show x.toNat+(k-q.2.c-x).toNat<=_;omega)
theorem AI(hg:eF rs){B L:Nat}{kx:Int}(hL:∀q∈rs,∀(r c:Nat) (k:Int),1<=r->r<=6->1<=c->c<=6->k<=kx->(cG q r c k).length<=L)(hB:rs.length*L<=2 ^ B):∀(f:Nat) (p:TR),p.2.1<=6->p.2.2.1<=6->p.2.2.2<=kx->cnt rs f p<=2 ^ (B*p.2.2.2.toNat)
 |0,_,_,_,_=>MX _
 |f+1,p,hr6,hc6,hk=>by
  unfold cnt
  split
  ·exact MX _
  ·rename_i hn
   have hr:1<=p.2.1:=by omega
   have b:1<=p.2.2.1:=by omega
   have u:1<=p.2.2.2:=by have:=b6 hr b;omega
   refine M6 (i8 _ (L*2 ^ (B*(p.2.2.2-1).toNat)) _ λq n=>?_) ?_
   ·obtain⟨m,l,_⟩:=hg q (ik n).1
    refine M6 (i8 _ (2 ^ (B*(p.2.2.2-1).toNat)) _ λps a=>?_) ?_
    ·refine yx m l hr b u a λo j=>?_
     have g:=jQ m l hr b a j;have:=g.rm;have:=g.cm;have:=g.lt;exact AI hg hL hB f o ⋯ ⋯ ⋯
    ·exact Nat.mul_le_mul (hL q (ik n).1 _ _ _ hr hr6 b hc6 hk) (MW _)
   ·have v:(gq p.1 rs).length<=rs.length:=List.length_filter_le _ _
    refine M6 (Nat.mul_le_mul v (MW _)) ?_;rw[<- Nat.mul_assoc];have e:B*p.2.2.2.toNat=B+B*(p.2.2.2-1).toNat:=by
     rw[show p.2.2.2.toNat=1+(p.2.2.2-1).toNat by omega,Nat.mul_add,Nat.mul_one]
    rw[e,Nat.pow_add];exact Nat.mul_le_mul hB (MW _)
theorem Gd(hg:eF rs)(h24:rs.length<=24){p:TR}(hr:p.2.1<=6)(hc:p.2.2.1<=6)(hk:p.2.2.2<=16):CN rs p<=2 ^ 176:=by
 have:=AI (B:=11) (L:=75) (kx:=16) hg (λq a r c k e b j g hk=>jr (hg q a).1 (hg q a).2.1 e j b g hk) (M6 (Nat.mul_le_mul_right 75 h24) nofun) 17 p hr hc hk;exact M6 this (Nat.pow_le_pow_right nofun ⋯)
theorem Fv{n:Nat}(h:n<=2 ^ 176):((n:Nat):Int).natAbs.log2<9000:=by
 rw[Int.natAbs_natCast]
 by_cases a:n=0
 ·subst a;decide
 ·exact(Nat.log2_lt a).mpr (Nd h (Nat.pow_lt_pow_right nofun nofun))
inductive cv(R:RC)(CG CT CN_ CU_:Addr)(n:Nat)(vs:List V)(H:Hp)(Q:VK)(E:XK):Prop
 |mk (a dx g dg d1 d2 b:Addr) (sg st:Nw) (as:NA) (rs:Yaa) (m:Nat) (p:TR) (k:Int) (_:vs=[.ref a,.ref b,.int k]) (_:gX R CG CT H a dx g dg d1 d2 sg st as rs m) (_:H b=some (.tup (b5 p))) (_:0<n) (_:((qd st rs m p/\p.2.2.2<(n:Int)/\(∀(j:Nat) t,k=(j:Int)->(RT rs p)[j]?=some t->∀v H',b8 d1 d2 H H'->dY st rs m H' d1 d2->cE H' t.d v->Q v H')/\((k<0\/(CN rs p:Int)<=k)->∀H',b8 d1 d2 H H'->dY st rs m H' d1 d2->E (.ref CU_) none H'))\/(tx p.1∉(bf (tx st) rs).map (·.1)/\E (.ref CN_) none H)))
inductive gH(R:RC)(CG CT:Addr)(n:Nat)(vs:List V)(H:Hp)(Q:VK)(_E:XK):Prop
 |mk (a dx g dg d1 d2 l:Addr) (sg st:Nw) (as:NA) (rs:Yaa) (m:Nat) (ps:List TR) (k:Nat) (ts:List aQ) (_:vs=[.ref a,.ref l,.int (k:Int)]) (_:gX R CG CT H a dx g dg d1 d2 sg st as rs m) (_:HK H l ps) (_:(∀p∈ps,qd st rs m p/\p.2.2.2<(n:Int))) (_:ps.length<=2) (_:(ps≠[]->0<n)) (_:(bQ (RT rs) ps)[k]?=some ts) (_:∀x vs H',b8 d1 d2 H H'->dY st rs m H' d1 d2->H' x=some (.tup vs)->aP H' (ts.map aQ.d) vs->Q (.ref x) H')
def Cz(rs:Yaa)(k:Nat)(ps:List TR)(i:Nat):Nat:=(ps.reverse.take i).foldl (λk p=>k/CN rs p) k
theorem C6{ps:List TR}{i:Nat}{p:TR}(h:ps.reverse[i]?=some p):Cz rs k ps (i+1)=Cz rs k ps i/CN rs p:=by
 unfold Cz;rw[q0D,h,List.foldl_append];rfl
theorem si(hg:eF rs){ps:List TR}{k:Nat}{ts:List aQ}(ok:∀p∈ps,fN p)(h2:ps.length<=2)(h:(bQ (RT rs) ps)[k]?=some ts) :
  ts.length=ps.length/\∀(i:Nat) p,ps.reverse[i]?=some p->∃t,ts.reverse[i]?=some t/\(RT rs p)[Cz rs k ps i%CN rs p]?=some t:=by
 match ps,h2,h,ok with
 | [],_,h,_=>
  have:k=0/\ts=[]:=by
   cases k with
   |zero=>exact⟨rfl,by simpa[bQ]using h.symm⟩
   |succ k=>simp[bQ]at h
  obtain⟨rfl,rfl⟩:=this;exact⟨rfl,λi p e=>by simp at e⟩
 | [p],_,h,ok=>
  rw[iI]at h;obtain⟨t,l,rfl⟩:=M3.mp h;refine⟨rfl,λi a e=>?_⟩;have:i=0/\a=p:=by
   match i,e with
   |0,e=>exact⟨rfl,by simpa using e.symm⟩
   |i+1,e=>simp at e
  obtain⟨rfl,rfl⟩:=this;refine⟨t,rfl,?_⟩;show(RT rs a)[k%CN rs a]?=some t;rw[Nat.mod_eq_of_lt (by rw[<- bU hg (ok _ (by simp))];exact(My.mp l).1)];exact l
 | [p1,p2],_,h,ok=>
  have l1:=bU hg (ok p1 (by simp));have j:=bU hg (ok p2 (by simp));have b:k<CN rs p1*CN rs p2:=by
   have:=(My.mp h).1;rw[fG (g:=CN rs) λp o=>bU hg (ok p o)]at this
   simpa[aR]using this
  have c:0<CN rs p2:=by
   rcases Nat.eq_zero_or_pos (CN rs p2) with e | e
   ·rw[e]at b;simp at b
   ·exact e
  have q:k/CN rs p2<CN rs p1:=Nat.div_lt_of_lt_mul (by rw[Nat.mul_comm];exact b);have hm:=Nat.mod_lt k c;obtain⟨t1,n⟩:∃t,(RT rs p1)[k/CN rs p2]?=some t:=⟨_,Mx ⋯⟩;obtain⟨t2,m⟩:∃t,(RT rs p2)[k%CN rs p2]?=some t:=⟨_,Mx ⋯⟩;have:=tP (F:=RT rs) (p1:=p1) (p2:=p2) (k:=k) (t1:=t1) (t2:=t2) (by rw[j];exact n) (by rw[j];exact m);rw[this]at h;cases h;refine⟨rfl,λi a e=>?_⟩
  match i,e with
  |0,e=>
   have:a=p2:=by simpa using e.symm
   subst this;exact⟨t2,rfl,m⟩
  |1,e=>
   have:a=p1:=by simpa using e.symm
   subst this;refine⟨t1,rfl,?_⟩;show(RT rs a)[k/CN rs p2%CN rs a]?=some t1;rw[Nat.mod_eq_of_lt q];exact n
  |i+2,e=>simp at e
abbrev cN:Stmt:=fu 41 6
theorem qW:aw ["self","rows","k","trees","row","many"] ["self","rows","k"] (aj cN):=by walk_at "c"
theorem rE{f CT yaa yab:Addr}{lv:Nat}(hlv:72<=lv)(F:cF K "trees_in" "TreeRows.trees_in" cN f fd)(nb:NB mg)
  (yah:cg P w K mg base (bG P w) 72 CT "many_in" ["self","row"] (bz R CG CT yaa 17)) (yay:cg P w K mg base (bG P w) lv CT "tree_in" ["self","row","k"] (cv R CG CT yaa yab n)) :
  aS P w K mg base (bG P w) (lv+1) f fd ["self","rows","k"] (gH R CG CT n):=by
 have sc:=qW;walk_at "x"
 ·obtain⟨a,dx,g,dg,d1,d2,l,sg,st,as,c,m,ps,k,ts,rfl,_⟩:=h;rfl
 ·obtain⟨a,dx,g,dg,d1,d2,l,sg,st,as,c,m,ps,k,ts,rfl,u,hl,Z,b3,hn,b0,q⟩:=h
  have hu:=hr.units;refine⟨_,(af (q01 3 sc.nd (aG ac))
   (af (bP PassesOwn.leaving rfl (yd rfl nb.reversed (aa (al 1) ac)) (q02 4 sc.nd)
   (af (q01 5 sc.nd (bS yah (hr.mono ⋯) (aY λ_ _ _ h=>h) (al 0) (aa (al 4) ac)))
   (af (q01 3 sc.nd (au cB (aG (aa (bS yay (hr.mono ⋯) (aY λ_ _ _ h=>h) (al 0) (aa (al 4) (aa (au (bc.m1 br) (al 2) (al 5)) ac))) ac)) (al 3)))
   (ai (q01 2 sc.nd (au (bc.m1 E5) (al 2) (al 5)))))))
   (ai (aF (al 3))))),?_⟩
  symm;refine⟨MX _,λx0 a8=>h1 _ _ ?_⟩;clear h1;have s1:=ae (o:=.tup []) a8;have e1:ay H x0 (.tup []) x0=some (.tup []):=ad;generalize ay H x0 (.tup [])=H1 at s1 e1 ⊢;symm;obtain⟨bs,o,B,a4,c3⟩:=id hl;obtain⟨b1,O⟩:=si u.gc (λp hp=>((Z p hp).1.row u.m6)) b3 b0;refine⟨_,.inl (.inr ⟨o,s1 _ _ B⟩),?_⟩;refine Eb (xs:=bs.map V.ref) (λi σ H'=>b8 d1 d2 H H'/\dY st c m H' d1 d2/\i<=bs.length/\∃(x:Addr) (vs:List V) (y z:Option V),H' x=some (.tup vs)/\aP H' (((ts.reverse.take i).reverse).map aQ.d) vs/\vs.length<=i/\σ=[some (V.ref a),some (V.ref l),some (V.int (Cz c k ps i:Nat)),some (V.ref x),y,z])
   ⟨.of s1,(u.up s1).mm,MX _,x0,[],_,_,e1,by unfold aP;rfl,MW _,rfl⟩ (λi σ H' _ h=>.inl (.inr ⟨o,h.1 _ _ (λz=>by obtain⟨m1,_,h1,_⟩:=u.mm;rw[z,h1]at B;cases B) (λz=>by obtain⟨_,m2,_,h2,_⟩:=u.mm;rw[z,h2]at B;cases B) B⟩)) ?_ ?_
  ·rintro i x σ H2 a2 hx ⟨sd,mm,hi,xt,vs,y,z,L,D,a9,rfl⟩
   have c1:i<bs.length:=by simpa using a2
   have M:bs.length-1-i<bs.length:=by omega
   rw[MA,MC,Mx M]at hx;cases hx;obtain⟨p,G⟩:∃p,ps[bs.length-1-i]?=some p:=⟨_,Mx ⋯⟩;have hb:=c3 _ _ _ (Mx M) G;have a0:ps.reverse[i]?=some p:=by
    rw[List.getElem?_reverse ⋯,<- a4];exact G
   obtain⟨S,kn⟩:=Z _ (MD G);have c0:ps≠[]:=λe=>by rw[e]at G;simp at G
   obtain⟨t,b2,Y⟩:=O i _ a0;have c2:Cz c k ps (i+1)=Cz c k ps i/CN c p:=C6 a0;generalize bs[bs.length-1-i]'M=b at hb;have r:=u.next sd mm;have a5:=(u.kp sd).tup hb;have a3:=bU u.gc (S.row u.m6);have c6:0<CN c p:=by rw[<- a3];have:=(My.mp Y).1;omega
   have c5:=Gd u.gc u.n24 (p:=p) (by have:=S.rm;have:=u.m6;omega) (by have:=S.cm;have:=u.m6;omega) S.k16;ac_nf;refine⟨dx,_,r.at_,rfl,a,dx,g,dg,d1,d2,b,sg,st,as,c,m,p,rfl,r,a5,.inl ⟨S,nofun,by have:=S.k16;omega,λH3 J a7=>h2 _ _ ?_⟩⟩;clear h2;have I:=r.next J a7;have c4:=(r.kp J).tup a5;ac_nf;refine⟨dx,_,I.at_,rfl,⋯,a,dx,g,dg,d1,d2,b,sg,st,as,c,m,p,_,rfl,I,c4,hn c0,.inl ⟨S,kn,λj t' ej hj v H4 T a6 hv=>?_,λbad=>?_⟩⟩
   rotate_left
   ·exfalso
    have h1:(Cz c k ps i:Int)%(CN c p:Int)=((Cz c k ps i%CN c p:Nat):Int):=by push_cast;rfl
    have h2:=Nat.mod_lt (Cz c k ps i) c6;omega
   have c9:j=Cz c k ps i%CN c p:=by
    have h1:(Cz c k ps i:Int)%(CN c p:Int)=((Cz c k ps i%CN c p:Nat):Int):=by push_cast;rfl
    omega
   rw[c9,Y]at hj;cases hj;refine⟨ak nofun,λp1 b4=>?_⟩;have s5:=ae (o:=.tup [v]) b4;have e5:ay H4 p1 (.tup [v]) p1=some (.tup [v]):=ad;generalize ay H4 p1 (.tup [v])=H5 at s5 e5 ⊢;have C:=(J.trans T).trans (.of s5);have U:=(r.kp C).tup L;refine dh e5 U (by simp) (by simp;omega) λp2 H6 a1 s6=>h2 _ _ ?_;clear h2;ext;refine⟨⟨⋯,Fv c5⟩,(sd.trans C).trans (.of s6),((I.next T a6).up (s5.trans s6)).mm,c1,p2,[v]++vs,a1,?_,by simp;omega,?_⟩
   ·have e8:(ts.reverse.take (i+1)).reverse=t::(ts.reverse.take i).reverse:=by rw[q0D,b2];simp
    rw[e8,M5];have tu:dX H2 H6:=λx xs e=>((r.kp C).trans (.of s6)).tup e;exact aP.cons (hv.up (dX.of (s5.trans s6)) _) (D.up tu _)
   ·exact⟨by rw[c2];push_cast;rfl,rfl⟩
  ·rintro σ H2 ⟨sd,mm,hi,xt,vs,y,z,L,D,a9,rfl⟩
   refine h1 _ _ ?_;ext;rw[MA,a4,<- b1]at D;rw[<- MQ,Na,List.reverse_reverse]at D;exact q xt vs H2 sd mm L D
abbrev cL:Stmt:=fu 41 5
theorem lV:aw ["self","row","k","passed","number","rows","many"] ["self","row","k"] (aj cL):=by walk_at "c"
theorem sQ{f CT yaa yab:Addr}{lv:Nat}(hlv:72<=lv)(F:cF K "tree_in" "TreeRows.tree_in" cL f fd)(nb:NB mg)(yaj:mg "NoNumber"=some (.ref yab))(yaI:XR K yab)
  (yak:cg P w K mg base (bG P w) 71 CT "steps_of" ["self","row"] (bX R CG CT yaa 17)) (ycq:cg P w K mg base (bG P w) (lv+1) CT "trees_in" ["self","rows","k"] (gH R CG CT n)) :
  aS P w K mg base (bG P w) (lv+2) f fd ["self","row","k"] (cv R CG CT yaa yab (n+1)):=by
 have sc:=lV;walk_at "x"
 ·obtain⟨a,dx,g,dg,d1,d2,b,sg,st,as,D,m,p,k,rfl,_⟩:=h;rfl
 ·obtain⟨a,dx,g,dg,d1,d2,b,sg,st,as,D,m,p,k,rfl,c,hb,_,cs⟩:=h
  have hu:=hr.units;refine⟨_,(af (q01 3 sc.nd ah)
   (af (bP PassesOwn.leaving rfl (cK (bS yak (hr.mono ⋯) (aY λ_ _ _ h=>h) (al 0) (aa (al 1) ac))) (fB (n:=3) rfl (aM (q02 4 sc.nd) (aM (q02 5 sc.nd) (aM (q02 6 sc.nd) cY))))
   (af (bC (Eo (bc.m0 pi) (bc.m0 tS) (al 3) (al 2) (au (bc.m0 bF) (al 3) (al 6)))
   (ai (aF (au cB (aG (aa (al 4) ac)) (bS ycq (hr.mono ⋯) (aY λ_ _ _ h=>h) (al 0) (aa (al 5) (aa (au (bc.m0 cX) (al 2) (al 3)) ac))))))
   aL)
   (ai (q01 3 sc.nd (au (bc.m0 bF) (al 3) (al 6))))))
   (ai (dF yaI rfl rfl yaj (fb λ_ _ _ h=>h) (bh ac))))),?_⟩
  symm;refine h1 _ _ ?_;grind;refine⟨dx,_,c.at_,rfl,a,dx,g,dg,d1,d2,b,sg,st,as,D,m,p,rfl,c,hb,?_⟩;rcases cs with⟨dp,pn,q,bad⟩ | ⟨nn,ex⟩
  rotate_left
  ·exact .inr ⟨nofun,nn,ex⟩
  refine .inl ⟨dp,nofun,by have:=dp.k16;omega,λl H1 M U _ hZ=>?_⟩;have a7:=c.next M U;have ok:=dp.row c.m6;have hsl:=oH c.gc ok c.n24;have b3:=nM c.gc ok;obtain⟨ts,o,Z,b1,b2⟩:=id hZ;refine⟨l,rfl,⟨_,.inl (.inr ⟨o,Z⟩)⟩,?_⟩;refine dO (xs:=ts.map V.ref) (λi σ H'=>H'=H1/\(i<=ts.length/\¬ ((0:Int)<=k/\k<((((a_ D p).take i).map λs=>s.2.2).sum:Nat)))/\∃x y z,σ=[some (V.ref a),some (V.ref b),some (V.int k),some (V.int ((((a_ D p).take i).map λs=>s.2.2).sum:Nat)),x,y,z])
   ⟨rfl,⟨MX _,by rw[Nq];simp⟩,_,_,_,rfl⟩ (λi σ H' _ h=>by rw[h.1];exact .inl (.inr ⟨o,Z⟩)) ?_ ?_
  ·rintro i x σ H2 hx ⟨rfl,⟨hi,S⟩,x1,y1,z1,rfl⟩
   have v:i<ts.length:=by have:=(My.mp hx).1;rwa [MA]at this
   rw[MC,Mx v]at hx;cases hx;obtain⟨B,r⟩:∃s,(a_ D p)[i]?=some s:=⟨_,Mx ⋯⟩;obtain⟨rl,he,hT⟩:=b2 i _ B (Mx v) r;generalize ts[i]'v=t at he;have a0:=tX (λs:wv=>s.2.2) _ _ _ r;generalize b4:(((a_ D p).take i).map λs=>s.2.2).sum=pas at S a0;ext;refine⟨_,aZ.of he,rfl,_,_,rfl,_,_,rfl,_,_,rfl,rfl,?_⟩;rw[a0]
   by_cases a6:(pas:Int)<=k
   ·rw[q07 a6]
    refine⟨_,rfl,?_⟩
    by_cases a5:k<(pas:Int)+(B.2.2:Int)
    ·rw[q07 a5]
     refine⟨ak nofun,λp1 c0=>?_⟩;have s2:=ae (o:=.tup [V.int (B.1:Int)]) c0;have e2:ay H2 p1 (.tup [V.int (B.1:Int)]) p1=some (.tup [V.int (B.1:Int)]):=ad;generalize ay H2 p1 (.tup [V.int (B.1:Int)])=H3 at s2 e2 ⊢;have C:=a7.up s2;obtain⟨j,hj⟩:∃j:Nat,k=((pas+j:Nat):Int):=⟨(k-pas).toNat,⋯⟩;obtain⟨q0,a1,hn0,G,c2,h00,hfw⟩:=jb (MD r);have hfp:=b6 ok.r1 ok.c1;obtain⟨q4,qc,qc9⟩:=c.gc q0 (MD a1);have a3:B.2.1.length<=2:=by
      rcases eY q4 ok.r1 ok.c1 G with e | ⟨T,e,_⟩ | ⟨_,z,f,sz,f1,f2,e⟩<;>rw[e]<;>simp
     have a4:∀T∈B.2.1,fN T:=λT u=>(kT c.gc ok (MD r) u).1;obtain⟨J,O⟩:∃J,(bQ (RT D) B.2.1)[j]?=some J:=⟨_,Mx (by rw[fG (g:=CN D) λT u=>bU c.gc (a4 T u),<- c2];omega)⟩;refine⟨dx,_,C.at_,rfl,a,dx,g,dg,d1,d2,rl,sg,st,as,D,m,B.2.1,j,J,by rw[show k-(pas:Int)=(j:Int) by omega],C,hT.kz (Kp.of s2).z,λT u=>?_,a3,λ_=>by omega,O,λx vs H4 L a8 a9 Y=>?_⟩
     ·obtain⟨d',lt'⟩:=dp.part c.gc (MD a1) ⋯ G u
      exact⟨d',by push_cast at pn;omega⟩
     ·have htl2:=(si c.gc a4 a3 O).1
      have b0:=Y.length;rw[MA]at b0;refine dh ((C.kp L).tup e2) a9 (by simp) (by simp;omega) λp2 H5 a2 s5=>?_;have I:=Fl c.gc ok r O;rw[b4]at I;refine q (pas+j) _ hj I (.ref p2) H5 (((M.trans (.of s2)).trans L).trans (.of s5)) ((C.next L a8).up s5).mm (aQ.of (vs:=vs) ?_ ?_)
      ·rw[wV];exact a2
      ·rw[vg _ ⋯];exact Y.up (dX.of s5) _
    ·rw[q06 a5]
     exact⟨_,rfl,v,⋯,by push_cast;rfl⟩
   ·rw[q06 a6]
    exact⟨_,rfl,v,⋯,by push_cast;rfl⟩
  ·rintro σ H2 ⟨rfl,⟨_,S⟩,x1,y1,z1,rfl⟩
   refine h1 _ _ ?_;ext;rw[MA,b1,Na,b3]at S;exact⟨ak nofun,bad ⋯ H2 M U⟩
theorem Cg{f CT yaa yab:Addr}(F:cF K "tree_in" "TreeRows.tree_in" cL f fd):aS P w K mg base (bG P w) 73 f fd ["self","row","k"] (cv R CG CT yaa yab 0):=by
 have c:∀{vs:List V} {H:Hp} {Q:VK} {E:XK},¬ cv R CG CT yaa yab 0 vs H Q E:=λh=>by
  obtain⟨a,dx,g,dg,d1,d2,b,sg,st,as,rs,m,p,k,_,_,_,e,_⟩:=h;exact q0N e ⋯
 exact F.okX (k:=72) (sp:=cv R CG CT yaa yab 0) lV (λvs H Q E h=>q0N h c) (λcdv A outer s H vs Q E hr h=>q0N h c)
theorem o7{CT yaa yab:Addr}{fd1 fd2:ND}(F1:cF K "tree_in" "TreeRows.tree_in" cL f1 fd1)(F2:cF K "trees_in" "TreeRows.trees_in" cN f2 fd2)(nb:NB mg)(ct:fQ K CT)(yaj:mg "NoNumber"=some (.ref yab))(yaI:XR K yab)
  (me1:dc K CT "tree_in" f1) (me2:dc K CT "trees_in" f2) (b1:cq K fd1 ["self","row","k"] []) (b2:cq K fd2 ["self","rows","k"] [])
  (yah:cg P w K mg base (bG P w) 72 CT "many_in" ["self","row"] (bz R CG CT yaa 17)) (yak:cg P w K mg base (bG P w) 71 CT "steps_of" ["self","row"] (bX R CG CT yaa 17)) :
  ∀n,cg P w K mg base (bG P w) (73+2*n) CT "tree_in" ["self","row","k"] (cv R CG CT yaa yab n)
 |0=>⟨f1,fd1,Cg F1,ct.cl,me1,b1⟩
 |n+1=>by
  have ih:=o7 F1 F2 nb ct yaj yaI me1 me2 b1 b2 yah yak n;have c2:cg P w K mg base (bG P w) (73+2*n+1) CT "trees_in" ["self","rows","k"] (gH R CG CT n):=⟨f2,fd2,rE (lv:=73+2*n) ⋯ F2 nb yah ih,ct.cl,me2,b2⟩;exact⟨f1,fd1,sQ (lv:=73+2*n) ⋯ F1 nb yaj yaI yak c2,ct.cl,me1,b1⟩
theorem Ag(pl:Nw):(AG pl).length=pl.length:=by unfold AG;simp
theorem GE(pl:Nw)(k:Nat):AG pl++[V.int (k:Int)]=AG (pl++[k]):=by unfold AG;simp
theorem Gw(h:tx a=tx b):a=b:=dW h
abbrev Bh:=Str×List Nat
def mL(rs:Yaa)(i:Int)(n:Nat)(pl:Nw)(w:Option (List Nat)):Option Bh:=
 if i<0\/(rs.length:Int)<=i then some (Str.ofString "number",pl) else
 match rs[i.toNat]? with
 |none=>none
 |some r=>if n≠(aO r.1 r.2).length then some (Str.ofString "parts",pl) else if w≠none/\w≠some r.2.n then some (Str.ofString "name",pl) else none
def gP(rs:Yaa)(i:Int)(k:Nat):Option (List Nat):=match rs[i.toNat]? with
 |some r=>(aO r.1 r.2)[k]?
 |none=>none
def cf(rs:Yaa):aQ->List Nat->Option (List Nat)->Option Bh
 | .n0 i,pl,w=>mL rs i 0 pl w
 | .n1 i a,pl,w=>match mL rs i 1 pl w with
  |some y=>some y
  |none=>cf rs a (pl++[0]) (gP rs i 0)
 | .n2 i a b,pl,w=>match mL rs i 2 pl w with
  |some y=>some y
  |none=>match cf rs a (pl++[0]) (gP rs i 0) with
   |some y=>some y
   |none=>cf rs b (pl++[1]) (gP rs i 1)
abbrev Hr:=aQ×List Nat×Option (List Nat)
def FU(rs:Yaa)(t:aQ)(pl:Nw):List Hr:=match t with
 | .n0 _=>[]
 | .n1 i a=>[(a,pl++[0],gP rs i 0)]
 | .n2 i a b=>[(a,pl++[0],gP rs i 0),(b,pl++[1],gP rs i 1)]
def AF(rs:Yaa):List Hr->Option Bh
 | []=>none
 |x::r=>match cf rs x.1 x.2.1 x.2.2 with
  |some y=>some y
  |none=>AF rs r
theorem gY(rs:Yaa)(x:Hr)(r:List Hr):AF rs (x::r)=match cf rs x.1 x.2.1 x.2.2 with
  |some y=>some y
  |none=>AF rs r:=by rw[AF]
theorem pZ(rs:Yaa):∀(xs ys:List Hr),AF rs (xs++ys)=match AF rs xs with
  |some y=>some y
  |none=>AF rs ys
 | [],ys=>rfl
 |x::xs,ys=>by
  rw[List.cons_append,gY,gY];cases cf rs x.1 x.2.1 x.2.2 with
  |some y=>rfl
  |none=>exact pZ rs xs ys
theorem EE(rs:Yaa)(t:aQ)(pl:Nw)(w:Option (List Nat)):cf rs t pl w=match mL rs t.i t.ps.length pl w with
  |some y=>some y
  |none=>AF rs (FU rs t pl):=by
 cases t with
 |n0 i=>unfold cf;show _=match mL rs i 0 pl w with | some y=>some y | none=>none;cases mL rs i 0 pl w<;>rfl
 |n1 i a=>
  unfold cf;show _=match mL rs i 1 pl w with | some y=>some y | none=>AF rs [(a,pl++[0],gP rs i 0)]
  cases mL rs i 1 pl w with
  |some y=>rfl
  |none=>
   try dsimp only
   rw[gY]
   try dsimp only
   cases cf rs a (pl++[0]) (gP rs i 0)<;>rfl
 |n2 i a b=>
  unfold cf;show _=match mL rs i 2 pl w with | some y=>some y | none=>AF rs [(a,pl++[0],gP rs i 0),(b,pl++[1],gP rs i 1)]
  cases mL rs i 2 pl w with
  |some y=>rfl
  |none=>
   try dsimp only
   rw[gY,gY]
   try dsimp only
   cases cf rs a (pl++[0]) (gP rs i 0) with
   |some y=>rfl
   |none=>cases cf rs b (pl++[1]) (gP rs i 1)<;>rfl
theorem Ev(rs:Yaa)(t:aQ)(pl:Nw):(FU rs t pl).length=t.ps.length:=by cases t<;>rfl
theorem ER{t:aQ}{pl:Nw}{j:Nat}{s:aQ}(h:t.ps[j]?=some s):(FU rs t pl)[j]?=some (s,pl++[j],gP rs t.i j):=by
 cases t with
 |n0 i=>simp[aQ.ps]at h
 |n1 i a=>
  match j,h with
  |0,h=>cases h;rfl
  |j+1,h=>simp[aQ.ps]at h
 |n2 i a b=>
  match j,h with
  |0,h=>cases h;rfl
  |1,h=>cases h;rfl
  |j+2,h=>simp[aQ.ps]at h
theorem EQ{ks:List Hr}{x:Hr}(h0:AF rs (ks.take j)=none)(hx:ks[j]?=some x):(cf rs x.1 x.2.1 x.2.2=none->AF rs (ks.take (j+1))=none)/\∀y,cf rs x.1 x.2.1 x.2.2=some y->AF rs ks=some y:=by
 have e:ks.take (j+1)=ks.take j++[x]:=by rw[List.take_succ,hx];rfl
 refine⟨λh=>?_,λy h=>?_⟩
 ·rw[e,pZ,h0]
  try dsimp only
  rw[gY,h]
  rfl
 ·have a:ks=ks.take (j+1)++ks.drop (j+1):=(List.take_append_drop _ _).symm
  rw[a,pZ,e,pZ,h0]
  try dsimp only
  rw[gY,h]
theorem DC{i:Int}{pl:Nw}{w:Option (List Nat)}(h:mL rs i n pl w=none):∃(m:Nat) (r:Nat×RV),i=(m:Int)/\rs[m]?=some r/\n=(aO r.1 r.2).length/\(w=none\/w=some r.2.n):=by
 unfold mL at h
 by_cases h1:i<0\/(rs.length:Int)<=i
 ·rw[q07 h1]at h;cases h
 rw[q06 h1]at h;have e:i=(i.toNat:Int):=by omega
 have a:i.toNat<rs.length:=by omega
 rw[Mx a]at h;dsimp only at h
 by_cases h2:n≠(aO rs[i.toNat].1 rs[i.toNat].2).length
 ·rw[q07 h2]at h;cases h
 rw[q06 h2]at h
 by_cases c:w≠none/\w≠some rs[i.toNat].2.n
 ·rw[q07 c]at h;cases h
 refine⟨_,_,e,Mx a,by simpa using h2,?_⟩
 by_cases b:w=none
 ·exact .inl b
 ·right
  rcases Classical.em (w=some rs[i.toNat].2.n) with h5 | h5
  ·exact h5
  ·exact q0N ⟨b,h5⟩ c
def Je:Option (List Nat)->V
 |none=>.non
 |some nm=>.str (tx nm)
def mW(K:W.Frag)(CF:Addr)(H:Hp)(E:XK)(y:Bh):Prop:=∀(tp p d:Addr) (H':Hp),az H H'->H' d=some (.xd [("why",.ref tp)])->H' tp=some (.tup [.str y.1,.ref p])->aZ K H' p (AG y.2)->E (.ref CF) (some d) H'
theorem mW.up{CF:Addr}(h:mW K CF H E y)(s:az H H'):mW K CF H' E y:=λtp p d H2 s2=>h tp p d H2 (s.trans s2)
theorem mW.made{CF:Addr}{w:Str}{pl:Nw}(h:mW K CF H E (w,pl))(s:az H H')(hp:aZ K H' p (AG pl)){tp d:Addr}(h1:H' tp=none)(h2:ay H' tp (.tup [.str w,.ref p]) d=none):E (.ref CF) (some d) (ay (ay H' tp (.tup [.str w,.ref p])) d (.xd [("why",.ref tp)])):=by
 have b:=ae (o:=.tup [.str w,.ref p]) h1;have a:=ae (o:=.xd [("why",.ref tp)]) h2;exact h tp p d _ (s.trans (b.trans a)) ad (a _ _ ad) ((b.trans a).sqT hp)
abbrev jd:Stmt:=ij 38
inductive iE(K:W.Frag)(R:RC)(CG CF:Addr)(n:Nat)(vs:List V)(H:Hp)(Q:VK)(E:XK):Prop
 |mk (g:Addr) (v:V) (pl:Addr) (dx:Addr) (sg st:Nw) (as:NA) (rs:Yaa) (t:aQ) (ps:Nw) (wn:Option (List Nat)) (_:vs=[.ref g,v,.ref pl,Je wn]) (_:dB R H CG dx g sg st as rs) (_:rs.length<=24) (_:cE H t.d v) (_:t.dep<=n) (_:aZ K H pl (AG ps)) (_:ps.length+n<=100) (_:(cf rs t ps wn=none->∀H',az H H'->Q .non H')) (_:∀y,cf rs t ps wn=some y->mW K CF H E y)
theorem lP:aw ["grammar","tree","place","name","number","rule","parts","k","part"] ["grammar","tree","place","name"] (aj jd):=by walk_at "c"
theorem lO{f yac:Addr}(F:cF K "check_form" "check_form" jd f fd)(nb:NB mg)(rk:pJ K R)(yar:mg "NoTree"=some (.ref yac))(yaK:XI P w K mg base 1 yac "why")(yaD:↑pO 1 "parts" (n8 K R))(yag:↑cg 1 CG "rule" ["self","k"] (cr R CG))(ya3:↑cg 1 CG "many" ["self"] (i7 R CG))(hm:mg "check_form"=some (.ref f))(hk:W.keepIn K (.ref f)=true)(hb:cq K fd ["grammar","tree","place","name"] []):∀n,n<=60->aS P w K mg base (bG P w) (n+4) f fd ["grammar","tree","place","name"] (iE K R CG yac n)
 |0,_=>by
  refine F.okX lP (λvs H Q E h=>?_) (λcdv A outer s H vs Q E hr h=>?_)
  ·obtain⟨g,v,pl,dx,sg,st,as,rs,t,ps,wn,rfl,_⟩:=h;rfl
  ·obtain⟨g,v,pl,dx,sg,st,as,rs,t,ps,wn,rfl,_,_,_,hd,_⟩:=h
   have:=t.dep1;omega
 |n+1,hn=>by
  have sc:=lP;have yaZ:dU P w K mg base (bG P w) (n+4) "check_form" ["grammar","tree","place","name"] (iE K R CG yac n):=⟨f,fd,lO F nb rk yar yaK yaD yag ya3 hm hk hb n ⋯,hm,hk,hb⟩;walk_at "x"
  ·obtain⟨g,v,pl,dx,sg,st,as,rs,t,ps,wn,rfl,_⟩:=h;rfl
  ·obtain⟨g,v,pl,dx,sg,st,as,rs,t,ps,wn,rfl,hG,h24,ht,hd,hpl,hz,q,bad⟩:=h
   refine⟨_,(af (q01 4 sc.nd (aE aC (al 1) ah (λ_ _=>rfl)))
   (af (bC (PW.pt (iO (aK (bc.m0 tS) (al 4) ah (aN _)) (fH (aK (bc.m0 GM) (al 4) (C8 ya3 (hr.mono ⋯) ba (al 0)) (aN _)))))
   (ai (d8 yaK (hr.mono ⋯) rfl rfl yar (eC λ_ _ _ h=>h) (aa (aG (bh (aa (al 2) ac))) ac)))
   aL)
   (af (q01 5 sc.nd (bS yag (hr.mono ⋯) ba (al 0) (aa (al 4) ac)))
   (af (q01 6 sc.nd (wX yaD (hr.mono ⋯) ba (al 5)))
   (af (bC (aK wK (au (bc.m0 cX) (av gB rfl nb.len aV (aa (al 1) ac)) ah) (av bi rfl nb.len aV (aa (al 6) ac)) (aN _))
   (ai (d8 yaK (hr.mono ⋯) rfl rfl yar (eC λ_ _ _ h=>h) (aa (aG (bh (aa (al 2) ac))) ac)))
   aL)
   (af (bC (PW.pt (l7 (aK v4 (al 3) iu (aN _)) (nE (aK wK (bJ (al 5) rfl) (al 3) (aN _)))))
   (ai (d8 yaK (hr.mono ⋯) rfl rfl yar (eC λ_ _ _ h=>h) (aa (aG (bh (aa (al 2) ac))) ac)))
   aL)
   (ai (bP PassesOwn.leaving rfl (qa rfl nb.enumerate (aa (al 6) ac)) (fB (n:=2) rfl (aM (q02 7 sc.nd) (aM (q02 8 sc.nd) cY)))
   (ai (bH (aJ (E:=E) yaZ (hr.mono ⋯) rfl (aY λ_ _ _ h=>h) (aa (al 0) (aa (aE aC (al 1) (au (bc.m0 bF) (al 7) ah) (λ_ _=>rfl)) (aa (au As (al 2) (aG (aa (al 7) ac))) (aa (al 8) ac))))))))))))))),?_⟩
   obtain⟨a,vs,rfl,hta,htr⟩:=aQ.val ht;have hvl:=oE htr;rw[EE]at q bad;have hps:=t.plen;symm;refine⟨_,aZ.of hta,_,wE _ _,h1 _ _ ?_⟩;clear h1;have badE:∀(w:Str) (H':Hp),mL rs t.i t.ps.length ps wn=some (w,ps)->az H H'->2<=sizeLine/\∀p,H' p=none->1<=sizeLine/\∀d,ay H' p (.tup [V.str w,V.ref pl]) d=none->E (.ref yac) (some d) (ay (ay H' p (.tup [V.str w,V.ref pl])) d (.xd [("why",.ref p)])):=λw H' e s'=>
    ⟨ak nofun,λp hp=>⟨ak nofun,λd hd=>mW.made (bad (w,ps) (by rw[e])) s' (s'.sqT hpl) hp hd⟩⟩
   obtain⟨lk,pn,t0,ha,hkk,hrs,hN,hmm⟩:=id hG;symm;refine b9 (λhlt=>?_) λhlt=>?_
   ·refine badE (Str.ofString "number") H ?_ (az.refl _)
    unfold mL;rw[q07 (.inl hlt)]
   refine⟨_,_,ha,rfl,g,dx,sg,st,as,rs,rfl,hG,?_⟩;refine⟨_,rfl,?_⟩;refine b9 (λhge=>?_) λhge=>?_
   ·refine badE (Str.ofString "number") H ?_ (az.refl _)
    unfold mL;rw[q07 (.inr ⋯)]
   refine h1 _ _ ?_;clear h1;obtain⟨i,hi⟩:∃i:Nat,t.i=(i:Int):=⟨t.i.toNat,⋯⟩;have hil:i<rs.length:=by omega
   obtain⟨r,u⟩:∃r,rs[i]?=some r:=⟨_,Mx hil⟩;have a6:i<as.length:=by rw[hrs.1];exact hil
   obtain⟨b,Z⟩:∃b,as[i]?=some b:=⟨_,Mx a6⟩;have C:=hrs.2 i b r Z u;have m:mL rs t.i t.ps.length ps wn=if t.ps.length≠(aO r.1 r.2).length then some (Str.ofString "parts",ps) else if wn≠none/\wn≠some r.2.n then some (Str.ofString "name",ps) else none:=by
    unfold mL;rw[q06 ⋯,hi,MI,u]
   have a4:∀j,gP rs t.i j=(aO r.1 r.2)[j]?:=λj=>by
    unfold gP;rw[hi,MI,u]
   rw[hi]at hta ⊢;symm;refine⟨_,_,ha,rfl,g,dx,sg,st,as,rs,i,b,rfl,hG,Z,h1 _ _ ?_⟩;grind;refine tW rk C λlp H1 hlp0 B J=>h1 _ _ ?_;grind;refine⟨_,aZ.of (J _ _ hta),_,aW.of B,?_⟩;rw[ar,MK,hvl];refine b9 (λl=>?_) λl=>?_
   ·refine badE (Str.ofString "parts") H1 ?_ J
    rw[m,q07 ⋯]
   have k:(aH (aO r.1 r.2)).length=t.ps.length:=by rw[ar];omega
   refine h1 _ _ ?_;grind;obtain⟨rdx,rl,a2,hrl⟩:=id C;have a7:=Ev rs t ps;have go:mL rs t.i t.ps.length ps wn=none->N1 [some (V.ref g),some (V.ref a),some (V.ref pl),some (Je wn),some (V.int (i:Int)),some (V.ref b),some (V.ref lp),none,none] H1:=λa3=>by
    rw[a3]at q bad;refine h1 _ _ ?_;clear h1;ext;refine⟨_,aW.of B,?_⟩;refine kO (xs:=aH (aO r.1 r.2)) (λj σ H'=>az H H'/\H' lp=some (.lst (aH (aO r.1 r.2)))/\AF rs ((FU rs t ps).take j)=none/\∃z1 z2,σ=[some (V.ref g),some (V.ref a),some (V.ref pl),some (Je wn),some (V.int (i:Int)),some (V.ref b),some (V.ref lp),z1,z2]) ⟨J,B,by rw[Nq];rfl,_,_,rfl⟩ ?_ ?_ ?_
    ·rintro j σ H' _ ⟨_,h,_⟩
     exact aW.of h
    ·rintro j x σ H' T hx ⟨sm,U,c,z1,z2,rfl⟩ hT
     have hj:j<t.ps.length:=by rw[<- k];exact(My.mp hx).1
     have Y:j<(aO r.1 r.2).length:=by rw[ar]at k;omega
     have a0:x=V.str (tx (aO r.1 r.2)[j]):=by
      rw[bp Y]at hx;exact(q0P hx).symm
     subst a0;have sT:=ae (o:=.tup [V.int (j:Int),V.str (tx (aO r.1 r.2)[j])]) hT;have eT:ay H' T (.tup [V.int (j:Int),V.str (tx (aO r.1 r.2)[j])]) T=some (.tup [V.int (j:Int),V.str (tx (aO r.1 r.2)[j])]):=ad;generalize ay H' T (.tup [V.int (j:Int),V.str (tx (aO r.1 r.2)[j])])=H2 at sT eT ⊢;have I:=sm.trans sT;have L:vs[j]?=some vs[j]:=Mx ⋯;obtain⟨s',M,a1⟩:=oR htr L;have hlt:=(aQ.lt (MD M)).1;obtain⟨G,D⟩:=EQ c (ER (rs:=rs) (pl:=ps) M);have a5:gP rs t.i j=some (aO r.1 r.2)[j]:=by rw[a4,Mx Y]
     rw[a5]at G D;ext;refine⟨_,aZ.of eT,rfl,_,_,rfl,_,_,rfl,rfl,?_⟩;refine⟨_,rfl,_,aZ.of (I _ _ hta),_,show gZ (V.int (i:Int)::vs) (((j+1:Nat)):Int)=some vs[j] from aU (by rw[M4];exact L),ak nofun,λp1 S=>?_⟩;have s3:=I.trans (ae (o:=.tup [V.int (j:Int)]) S);have sL:=sT.trans (ae (o:=.tup [V.int (j:Int)]) S);have e3:ay H2 p1 (.tup [V.int (j:Int)]) p1=some (.tup [V.int (j:Int)]):=ad;generalize ay H2 p1 (.tup [V.int (j:Int)])=H3 at s3 e3 sL ⊢;refine⟨_,s3.sqT hpl,_,aZ.of e3,by rw[Ag];exact ak (by simp;omega),λpp H4 O s4=>?_⟩;rw[GE]at O;have s5:=s3.trans s4;refine⟨g,vs[j],pp,dx,sg,st,as,rs,s',ps++[j],some (aO r.1 r.2)[j],rfl,hG.up s5,h24,a1.up (dX.of s5) _,⋯,O,by simp;omega,λa8 H5 s6=>⟨s5.trans s6,s6 _ _ (s4 _ _ (sL _ _ U)),G a8⟩,λy hy=>(bad y (D y hy)).up s5⟩
    ·rintro σ H' ⟨sm,_,c,z1,z2,rfl⟩
     ext;rw[k,<- a7,Na]at c;exact q c H' sm
   rw[q06 ⋯]at m;cases wn with
   |none=>
    rw[q06 (λh=>h rfl)];refine go ?_;rw[m,q06 (λh=>h.1 rfl)]
   |some nm=>
    rw[q07 (λh=>by cases h)];refine⟨_,_,_,J _ _ a2,(rk.icls r.1).cl,(rk.name r.1).1,_,(iT rl r.2 r.1).1,rfl,?_⟩;refine b9 (λl=>?_) λl=>?_
    ·refine badE (Str.ofString "name") H1 ?_ J
     rw[m,q07 ⟨(λh=>by cases h),λh=>l (by cases h;rfl)⟩]
    ·refine go ?_
     have e:tx r.2.n=tx nm:=by
      have e:=Classical.not_not.mp l;unfold Je at e;cases e
      rfl
     rw[m,q06 (λh=>h.2 (by rw[Gw e]))]
abbrev kF:Stmt:=fu 6 0
theorem DS:aw ["self","why"] ["self","why"] (aj kF):=by walk_at "c"
theorem EM{f:Addr}(F:cF K "__init__" "NoTree.__init__" kF f fd)(xs:W.XSt K C "why"):↑aS 1 f fd ["self","why"] (nr C "why"):=by
 have sc:=DS;refine F.ok sc (λvs H Q E h=>by obtain⟨_,_,h,_⟩:=h;rw[h];rfl) (λcdv A outer s H vs Q E hr h=>?_)
 ·obtain⟨a,v,rfl,c,q⟩:=h
  refine⟨_,(ai (AB (pv 0) (pv 1) rfl)),?_⟩;ext;exact⟨C,c,xs,λd b=>q d b⟩
theorem Gr.noC{d:Dt}{nm:Nw}(g:Gr rs d nm p c k):∀(t:aQ),d=t.d->∀pl,∀w,(w=none\/w=some nm)->cf rs t pl w=none:=by
 induction g with
 | @cell n v e=>
  intro t j pl;have:t=.n0 n:=aQ.d_inj (s:=t) (t:=.n0 n) j.symm;subst this;have r:=(My.mp e).1;intro w b;unfold cf mL;rw[q06 ⋯,MI,e]
  try dsimp only
  rw[q06 (λh=>h rfl),q06 (by rcases b with rfl | rfl<;>simp)]
 | @turn n v d p c k e g ih=>
  intro t j pl;obtain⟨u,rfl,_⟩:=g.tre;have:t=.n1 n u:=aQ.d_inj (s:=t) (t:=.n1 n u) j.symm;subst this;have r:=(My.mp e).1;have o:=ih u rfl (pl++[0]);intro w b
  ·have q:mL rs (n:Int) 1 pl w=none:=by
    unfold mL;rw[q06 ⋯,MI,e]
    try dsimp only
    rw[q06 (λh=>h rfl),q06 (by rcases b with rfl | rfl<;>simp)]
   unfold cf;rw[q];refine o _ (.inr ?_);unfold gP;rw[MI,e]
   rfl
 | @pair n kd v d1 d2 p1 p2 p c1 c2 k1 k2 hk e g1 g2 m ih1 ih2=>
  intro t j pl;obtain⟨u,rfl,_⟩:=g1.tre;obtain⟨l,rfl,_⟩:=g2.tre;have:t=.n2 n u l:=aQ.d_inj (s:=t) (t:=.n2 n u l) j.symm;subst this;have r:=(My.mp e).1;have o:=ih1 u rfl (pl++[0]);have x:=ih2 l rfl (pl++[1]);have a:aO kd v=[v.o1,v.o2]:=by rcases hk with rfl | rfl<;>rfl
  intro w b
  ·have q:mL rs (n:Int) 2 pl w=none:=by
    unfold mL;rw[q06 ⋯,MI,e]
    try dsimp only
    rw[a,q06 (λh=>h rfl),q06 (by rcases b with rfl | rfl<;>simp)]
   have n0:gP rs (n:Int) 0=some v.o1:=by unfold gP;rw[MI,e];dsimp only;rw[a];rfl
   have n1:gP rs (n:Int) 1=some v.o2:=by unfold gP;rw[MI,e];dsimp only;rw[a];rfl
   unfold cf;rw[q]
   try dsimp only
   rw[o _ (.inr n0)];exact x _ (.inr n1)
structure SJ where
 d:Dt
 nm:List Nat
 p:bN
 c:Int
 m:Int
 k:Nat
def Sh:Nat->Dt->List Int->Prop
 |0,_,_=>False
 |n+1,d,ns=>∃(i:Nat) (ds:List Dt) (nss:List (List Int)),d=.tup (.int (i:Int)::ds)/\ns=(i:Int)::nss.flatten/\ds.length=nss.length/\ds.length<=2/\∀(j:Nat) d' ns',ds[j]?=some d'->nss[j]?=some ns'->Sh n d' ns'
theorem Sh.mono:∀{m n:Nat} {d:Dt} {ns:List Int},Sh m d ns->m<=n->Sh n d ns
 |0,_,_,_,h,_=>h.elim
 |m+1,0,_,_,_,h=>q0N h ⋯
 |m+1,n+1,d,ns,⟨i,ds,nss,e1,e2,e3,e4,h⟩,hmn=>⟨i,ds,nss,e1,e2,e3,e4,λj d' ns' h1 h2=>(h j d' ns' h1 h2).mono ⋯⟩
theorem Sh.len:∀{n:Nat} {d:Dt} {ns:List Int},Sh n d ns->ns.length<2 ^ n
 |0,_,_,h=>h.elim
 |n+1,d,ns,⟨i,ds,nss,e1,e2,e3,e4,h⟩=>by
  have hp:0<2 ^ n:=Nat.two_pow_pos n;have h':∀(j:Nat) ns',nss[j]?=some ns'->ns'.length<2 ^ n:=λj ns' hj=>by
   have hj2:j<ds.length:=by rw[e3];exact(My.mp hj).1
   exact(h j _ ns' (Mx hj2) hj).len
  rw[e2,Nat.pow_succ]
  match nss,e3,h' with
  | [],_,_=>simp;omega
  | [a],_,h'=>have:=h' 0 a rfl;simp;omega
  | [a,b],_,h'=>have:=h' 0 a rfl;have:=h' 1 b rfl;simp;omega
  |a::b::c::nss,e3,_=>simp at e3;omega
theorem tG{α:Type}{xss:List (List α)}{j:Nat}{xs:List α}(h:xss[j]?=some xs):(xss.take (j+1)).flatten=(xss.take j).flatten++xs:=by
 rw[List.take_succ,h];simp
theorem jk{α:Type}:∀(xss:List (List α)) (j:Nat),(xss.take j).flatten.length<=xss.flatten.length
 | [],_=>by simp
 |xs::xss,0=>by simp
 |xs::xss,j+1=>by have:=jk xss j;simp[-List.length_flatten] ;omega
abbrev jf:Stmt:=ij 37
inductive iG(n:Nat)(vs:List V)(H:Hp)(Q:VK)(_E:XK):Prop
 |mk (v:V) (d:Dt) (ns:List Int) (_:vs=[v]) (_:cE H d v) (_:Sh n d ns) (_:∀l H',H l=none->H' l=some (.lst (ns.map V.int))->az H H'->Q (.ref l) H')
theorem lR:aw ["tree","numbers","part"] ["tree"] (aj jf):=by walk_at "c"
theorem lQ{f:Addr}(F:cF K "numbers_in" "numbers_in" jf f fd)(nb:NB mg)(hm:mg "numbers_in"=some (.ref f))(hk:W.keepIn K (.ref f)=true)(hb:cq K fd ["tree"] []):∀n,n<=18->↑aS (n+1) f fd ["tree"] (iG n)
 |0,_=>by
  refine F.ok lR (λvs H Q E h=>?_) (λcdv A outer s H vs Q E hr h=>?_)
  ·obtain⟨v,d,ns,_,_,h,_⟩:=h;exact h.elim
  ·obtain⟨v,d,ns,_,_,h,_⟩:=h;exact h.elim
 |n+1,hn=>by
  have sc:=lR;have yaT:↑dU (n+1) "numbers_in" ["tree"] (iG n):=⟨f,fd,lQ F nb hm hk hb n ⋯,hm,hk,hb⟩;walk_at "f"
  ·obtain⟨v,d,ns,rfl,ht,hsh,q⟩:=h
   refine⟨_,(af (q01 1 sc.nd (bK (aa (aE aC (al 0) ah (λ_ _=>rfl)) ac)))
   (af (bP PassesOwn.never rfl (yI (cJ oF (al 0) (cW ah) dN)) (q02 2 sc.nd)
   (ai (bH (lM PySem.F.plainAttrs_list PySem.F.slot_list_extend PySem.F.type_list_extend Bd (al 1) (aa (aJ yaT (hr.mono ⋯) rfl ba (aa (al 2) ac)) ac)))))
   (ai (aF (al 1))))),?_⟩
   obtain⟨i,ds,nss,rfl,rfl,e3,e4,hch⟩:=hsh;unfold cE at ht;obtain⟨a,xs,rfl,hta,hts⟩:=ht;obtain⟨x0,ys,rfl,hx0,htr⟩:=hts.uncons;unfold cE at hx0;subst hx0;have hyl:=htr.length;symm;refine⟨_,aZ.of hta,_,wE _ _,ak nofun,λl hl=>h1 _ _ ?_⟩;grind;have s1:=ae (o:=.lst [V.int (i:Int)]) hl;have e1:ay H l (.lst [V.int (i:Int)]) l=some (.lst [V.int (i:Int)]):=ad;generalize ay H l (.lst [V.int (i:Int)])=H1 at s1 e1 ⊢;refine⟨_,aZ.of (s1 _ _ hta),qb _ _,λp hp=>?_⟩;rw[Eg];have s2:=s1.trans (ae (o:=.tup ys) hp);have e2:=ae (o:=.tup ys) hp _ _ e1;have ep:ay H1 p (.tup ys) p=some (.tup ys):=ad;generalize ay H1 p (.tup ys)=H2 at s2 e2 ep ⊢;refine⟨⟨_,aZ.of ep⟩,?_⟩;have hpw:2 ^ (n+1)<=2 ^ 18:=Nat.pow_le_pow_right nofun hn;have hlen:(nss.flatten).length+1<262145:=by
    have h:=Sh.len (n:=n+1) (d:=.tup (.int (i:Int)::ds)) (ns:=(i:Int)::nss.flatten) ⟨i,ds,nss,rfl,rfl,e3,e4,hch⟩;rw[MK]at h;have:(2:Nat) ^ 18=262144:=by decide
    omega
   refine w9 (xs:=ys) (λj σ k=>az H k/\k p=some (.tup ys)/\k l=some (.lst (((i:Int)::(nss.take j).flatten).map V.int))/\∃z,σ=[some (V.ref a),some (V.ref l),z]) ⟨s2,ep,by rw[Nq];exact e2,_,rfl⟩ ?_ ?_ ?_
   ·rintro j σ k _ ⟨_,h,_⟩
    exact aZ.of h
   ·rintro j x σ k D ⟨u,c,b,z,rfl⟩
    obtain⟨C,r,B⟩:=kY htr D;have G:j<nss.length:=by rw[<- e3];exact(My.mp r).1
    have g:nss[j]?=some nss[j]:=Mx G;have b1:=jk nss j;have J:=jk nss (j+1);rw[tG g,MV]at J;ext;refine⟨.inl ⟨rfl,_,aW.of b⟩,x,C,nss[j],rfl,B.up (dX.of u) _,hch j C _ r g,λm H3 hm3 I y=>⟨m,rfl,_,y _ _ b,_,I,?_,gC (u.trans y) hl,?_,?_⟩⟩
    ·simp only[MA,MK]
     exact ak ⋯
    ·rw[ao (λe=>by rw[e,b]at c;cases c)]
     exact y _ _ c
    ·rw[ad,tG g]
     simp
   ·rintro σ k ⟨u,c,b,z,rfl⟩
    refine h1 _ _ ?_;ext;rw[hyl,e3,Na]at b;exact q l k hl b u
theorem Gr.node{d:Dt}{nm:Nw}(g:Gr rs d nm p c k):∃(n:Nat) (r:Nat×RV) (ys:List SJ),d=.tup (.int (n:Int)::ys.map SJ.d)/\rs[n]?=some r/\nm=r.2.n/\aO r.1 r.2=ys.map SJ.nm/\(∀y∈ys,Gr rs y.d y.nm y.p y.c y.k/\y.k<k)/\iH r.1 r.2 (ys.map SJ.p)=some p/\c=r.2.c+(ys.map SJ.c).sum/\ys.length<=2:=by
 cases g with
 | @cell n v e=>exact⟨n,(0,v),[],rfl,e,rfl,rfl,λy hy=>(nomatch hy),rfl,(Int.add_zero _).symm,by simp⟩
 | @turn n v d p c k e g=>
  refine⟨n,(3,v),[⟨d,v.o1,p,c,0,k⟩],rfl,e,rfl,rfl,λy hy=>?_,rfl,?_,by simp⟩
  ·rw[MB.mp hy];exact⟨g,M8 _⟩
  ·show v.c+c=v.c+(c+0)
   rw[Int.add_zero]
 | @pair n kd v d1 d2 p1 p2 p c1 c2 k1 k2 hk e g1 g2 m=>
  refine⟨n,(kd,v),[⟨d1,v.o1,p1,c1,0,k1⟩,⟨d2,v.o2,p2,c2,0,k2⟩],rfl,e,rfl,?_,λy hy=>?_,m,?_,by simp⟩
  ·rcases hk with rfl | rfl<;>rfl
  ·rcases MO.mp hy with rfl | hy
   ·exact⟨g1,by show k1<max k1 k2+1;omega⟩
   ·rw[MB.mp hy]
    exact⟨g2,by show k2<max k1 k2+1;omega⟩
  ·show v.c+(c1+c2)=v.c+(c1+(c2+0))
   rw[Int.add_zero]
theorem Gc{k:Nat}{ys:List SJ}(hk:k<4)(hp:aO k v=ys.map SJ.nm)(h6:∀y∈ys,∃r c,fV y.p r c):Cm k (ys.map SJ.p):=by
 have a:=q0O List.length hp;rw[MA]at a
 match k,hk with
 |0,_=>
  have g:ys.length=0:=a.symm;rw[Nf.mp g];exact .cell
 |1,_=>
  match ys,(show ys.length=2 from a.symm),h6 with
  | [x,y],_,h6=>
   obtain⟨r,c,h⟩:=h6 x (by simp);obtain⟨e,j,b⟩:=h6 y (by simp);exact .beside h b
 |2,_=>
  match ys,(show ys.length=2 from a.symm),h6 with
  | [x,y],_,h6=>
   obtain⟨r,c,h⟩:=h6 x (by simp);obtain⟨e,j,b⟩:=h6 y (by simp);exact .above h b
 |3,_=>
  match ys,(show ys.length=1 from a.symm),h6 with
  | [x],_,h6=>
   obtain⟨r,c,h⟩:=h6 x (by simp);exact .turn h
abbrev EK:Stmt:=ij 39
inductive yi(K:W.Frag)(R:RC)(CG:Addr)(n:Nat)(vs:List V)(H:Hp)(Q:VK)(_E:XK):Prop
 |mk (g:Addr) (v:V) (pl:Addr) (dx:Addr) (sg st:Nw) (as:NA) (rs:Yaa) (d:Dt) (nm:Nw) (p:bN) (c:Int) (k:Nat) (zs:List V) (_:vs=[.ref g,v,.ref pl]) (_:dB R H CG dx g sg st as rs) (_:(∀r∈rs,fj r)) (_:cE H d v) (_:Gr rs d nm p c k) (_:k<=n) (_:aZ K H pl zs) (_:zs.length+n<=100) (_:c8 H p Q)
theorem DA:aw ["grammar","tree","place","pictures","k","part"] ["grammar","tree","place"] (aj EK):=by walk_at "c"
theorem DW{f CF:Addr}(F:cF K "lay" "lay" EK f fd)(nb:NB mg)(ya2:pO P w K mg base (bG P w) 4 "made" (qB K R CF))(yag:↑cg 1 CG "rule" ["self","k"] (cr R CG))(hm:mg "lay"=some (.ref f))(hk:W.keepIn K (.ref f)=true)(hb:cq K fd ["grammar","tree","place"] []):∀n,n<=18->↑aS (n+5) f fd ["grammar","tree","place"] (yi K R CG n)
 |0,_=>by
  refine F.ok DA (λvs H Q E h=>?_) (λcdv A outer s H vs Q E hr h=>?_)
  ·obtain⟨g,v,pl,dx,sg,st,as,rs,d,nm,p,c,k,zs,rfl,_⟩:=h;rfl
  ·obtain⟨g,v,pl,dx,sg,st,as,rs,d,nm,p,c,k,zs,rfl,_,_,_,hg,hk0,_⟩:=h
   exfalso;cases hg<;>omega
 |n+1,hn=>by
  have sc:=DA;have yaY:↑dU (n+5) "lay" ["grammar","tree","place"] (yi K R CG n):=⟨f,fd,DW F nb ya2 yag hm hk hb n ⋯,hm,hk,hb⟩;walk_at "f"
  ·obtain⟨g,v,pl,dx,sg,st,as,rs,d,nm,p,c,k,zs,rfl,hG,hgd,ht,hg,hkn,hpl,hz,q⟩:=h
   refine⟨_,(af (q01 3 sc.nd (bK ac))
   (af (bP PassesOwn.never rfl (EJ rfl nb.enumerate (aa (cJ oF (al 1) (cW ah) dN) ac)) (fB (n:=2) rfl (aM (q02 4 sc.nd) (aM (q02 5 sc.nd) cY)))
   (ai (bH (q03 (al 3) (aa (aJ yaY (hr.mono ⋯) rfl ba (aa (al 0) (aa (al 5) (aa (au As (al 2) (aG (aa (al 4) ac))) ac)))) ac)))))
   (ai (xC (ai (aF (Ax (CX:=bG P w) ya2 (hr.mono ⋯) bt (bS yag (hr.mono ⋯) ba (al 0) (aa (aE aC (al 1) ah (λ_ _=>rfl)) ac)) (aa (al 3) ac)))))))),?_⟩
   obtain⟨i,r,ys,rfl,hri,rfl,hpar,hsub,hmd,hcc,hyl⟩:=hg.node;unfold cE at ht;obtain⟨a,xs,rfl,hta,hts⟩:=ht;obtain⟨x0,vs,rfl,hx0,htr⟩:=hts.uncons;unfold cE at hx0;subst hx0;have hvl:=htr.length;have hvl2:vs.length=ys.length:=by rw[hvl,MA]
   have hi:i<rs.length:=(My.mp hri).1;symm;refine⟨MX _,λl hl=>h1 _ _ ?_⟩;grind;have s1:=ae (o:=.lst []) hl;have e1:ay H l (.lst []) l=some (.lst []):=ad;generalize ay H l (.lst [])=H1 at s1 e1 ⊢;refine⟨_,aZ.of (s1 _ _ hta),qb _ _,λpt S=>?_⟩;rw[Eg];have s2:=s1.trans (ae (o:=.tup vs) S);have e2:=ae (o:=.tup vs) S _ _ e1;have ep:ay H1 pt (.tup vs) pt=some (.tup vs):=ad;generalize ay H1 pt (.tup vs)=H2 at s2 e2 ep ⊢;have b3:∀y∈ys,y.p≠[]:=λy hy e=>by
    obtain⟨r',c',h6⟩:=(hsub y hy).1.pic6 hgd;have:=h6.rc.1;have:=h6.r0;rw[e]at *;simp at *;omega
   refine⟨_,aZ.of ep,?_⟩;refine zk (xs:=vs) (λj σ I=>az H I/\I pt=some (.tup vs)/\(∃bs:List Addr,I l=some (.lst (bs.map V.ref))/\bs.length=j/\∀(m:Nat) b y,bs[m]?=some b->ys[m]?=some y->I b=some (.lst (aH y.p)))/\∃z1 z2,σ=[some (V.ref g),some (V.ref a),some (V.ref pl),some (V.ref l),z1,z2]) ⟨s2,ep,⟨[],e2,rfl,λm b y h=>by simp at h⟩,_,_,rfl⟩ ?_ ?_ ?_
   ·rintro j σ I _ ⟨_,h,_⟩
    exact aZ.of h
   ·rintro j x σ I T hx ⟨L,u,⟨bs,C,D,G⟩,z1,z2,rfl⟩ hT
    have hjv:j<vs.length:=(My.mp hx).1;have hj:j<ys.length:=by omega
    have sT:=ae (o:=.tup [V.int (j:Int),x]) hT;have eT:ay I T (.tup [V.int (j:Int),x]) T=some (.tup [V.int (j:Int),x]):=ad;generalize ay I T (.tup [V.int (j:Int),x])=H3 at sT eT ⊢;obtain⟨d',a0,b0⟩:=kY htr hx;rw[MC,Mx hj]at a0;cases a0;obtain⟨c3,hkj⟩:=hsub ys[j] (MH hj);have a5:=L.trans sT;ext;refine⟨_,aZ.of eT,rfl,_,_,rfl,_,_,rfl,rfl,.inl ⟨rfl,_,aW.of (sT _ _ C)⟩,ak nofun,λp1 b2=>?_⟩;have sU:=ae (o:=.tup [V.int (j:Int)]) b2;have eU:ay H3 p1 (.tup [V.int (j:Int)]) p1=some (.tup [V.int (j:Int)]):=ad;generalize ay H3 p1 (.tup [V.int (j:Int)])=H4 at sU eU ⊢;have s4:=a5.trans sU;refine⟨_,s4.sqT hpl,_,aZ.of eU,by simp;exact ak ⋯,λpp H5 b1 s5=>?_⟩;have s6:=s4.trans s5;have a6:=(sT.trans sU).trans s5;refine⟨g,x,pp,dx,sg,st,as,rs,ys[j].d,ys[j].nm,ys[j].p,ys[j].c,ys[j].k,_,rfl,hG.up s6,hgd,b0.up (dX.of s6) _,c3,⋯,b1,by simp;omega,λlq H6 hlq0 c2 s7=>?_⟩;have M:=a6.trans s7;have Y:=M _ _ C;refine⟨_,Y,by rw[MA];exact bq ⋯,gC (s6.trans s7) hl,?_,bs++[lq],by rw[ad];simp,by simp[D],λm b y B J=>?_⟩
    ·rw[ao (λe=>by rw[e,C]at u;cases u)]
     exact M _ _ u
    ·have a9:=MD J
     have a1:H6 b=some (.lst (aH y.p)):=by
      by_cases c0:m<bs.length
      ·rw[MU c0]at B
       exact M _ _ (G m b y B J)
      ·rw[MT ⋯]at B
       have b4:m=bs.length:=by
        have:=(My.mp B).1;simp at this;omega
       subst b4;rw[Nat.sub_self]at B;cases B;rw[D,Mx hj]at J;cases J;exact c2
     rw[ao (yJ Y a1 (b3 y a9))];exact a1
   ·rintro σ I ⟨L,u,⟨bs,C,D,G⟩,z1,z2,rfl⟩
    refine h1 _ _ ?_;ext;obtain⟨lk,pn,t,ha,hkk,O,hN,hmm⟩:=id (hG.up L);have c1:i<as.length:=by rw[O.1];exact hi
    obtain⟨b,a2⟩:∃b,as[i]?=some b:=⟨_,Mx c1⟩;have a4:=O.2 i b r a2 hri;have Z:=hgd r (MD hri);rw[hvl2]at D;have a3:Fd I l bs (ys.map SJ.p):=⟨C,by rw[D,MA],λm h1 h2=>by
     rw[List.getElem_map];exact G m _ _ (Mx h1) (Mx ⋯)⟩
    refine⟨_,_,ha,rfl,_,aZ.of (L _ _ hta),_,wE _ _,g,dx,sg,st,as,rs,i,b,rfl,hG.up L,a2,?_⟩;obtain⟨o,ho,a8,a7,k1,k2,k3⟩:=Du (K:=K) (CF:=CF) (E:=λ_ _ _=>False) (Q:=Q) a4 (Z.good.ok r.1) a3 (Gc Z.k4 hpar λy hy=>(hsub y hy).1.pic6 hgd) (λp' U=>by
     rw[hmd]at U;cases U;exact λlq H7 h0 h7 s7=>q lq H7 (ia L h0) h7 (L.trans s7)) (λe=>by rw[hmd]at e;cases e)
    exact⟨o,ho,b,rfl,a8,a7,k1,k2,k3⟩
abbrev Aa:Stmt:=ij 35
def oJ(R:RC)(CG:Addr)(H:Hp)(g:Addr)(v:V)(rs:Yaa)(d:Dt)(p:bN)(c:Int):Prop:=∃(dx:Addr) (sg st:Nw) (as:NA) (nm:Nw) (k:Nat),dB R H CG dx g sg st as rs/\(∀r∈rs,fj r)/\rs.length<=24/\cE H d v/\Gr rs d nm p c k/\k<=18
theorem oJ.up{d:Dt}(h:oJ R CG H g v rs d p c)(s:az H H'):oJ R CG H' g v rs d p c:=by
 obtain⟨o,b,a,q,e,k,h1,h2,n,m,l,j⟩:=h;exact⟨o,b,a,q,e,k,h1.up s,h2,n,m.up (dX.of s) _,l,j⟩
inductive pW(K:W.Frag)(R:RC)(CG CF:Addr)(vs:List V)(H:Hp)(Q:VK)(E:XK):Prop
 |mk (g:Addr) (v:V) (rs:Yaa) (_:vs=[.ref g,v]) (_:((∃(d:Dt) (p:bN) (c:Int),oJ R CG H g v rs d p c/\c8 H p Q)\/(∃(dx:Addr) (sg st:Nw) (as:NA) (t:aQ) (y:Bh),dB R H CG dx g sg st as rs/\rs.length<=24/\cE H t.d v/\t.dep<=60/\cf rs t [] none=some y/\mW K CF H E y)))
theorem F':aw ["grammar","tree"] ["grammar","tree"] (aj Aa):=by walk_at "c"
theorem FH{f yac:Addr}(F:cF K "laid" "laid" Aa f fd)(nb:NB mg)(yaZ:dU P w K mg base (bG P w) 64 "check_form" ["grammar","tree","place","name"] (iE K R CG yac 60))(yaY:↑dU 23 "lay" ["grammar","tree","place"] (yi K R CG 18)):aS P w K mg base (bG P w) 66 f fd ["grammar","tree"] (pW K R CG yac):=by
 have sc:=F';walk_at "x"
 ·obtain⟨g,v,u,rfl,_⟩:=h;rfl
 ·obtain⟨g,v,u,rfl,cs⟩:=h
  refine⟨_,(af (bH (aJ (E:=E) yaZ (hr.mono nofun) rfl (aY λ_ _ _ h=>h) (aa (al 0) (aa (al 1) (aa (aG ac) (aa iu ac))))))
   (ai (aF (aJ (CX:=bG P w) yaY.lift (hr.mono nofun) rfl bt (aa (al 0) (aa (al 1) (aa (aG ac) ac))))))),?_⟩
  ext;refine⟨MX _,λO I=>?_⟩;have b:=ae (o:=.tup []) I;rcases cs with⟨d,p,c,⟨C,n,m,D,Y,k,B,J,a,x,L,Z⟩,q⟩ | ⟨C,n,m,D,t,y,B,a,x,hd,j,bad⟩
  ·obtain⟨t,rfl,htk⟩:=L.tre
   have M:=L.noC t rfl [] none (.inl rfl);refine⟨g,v,O,C,n,m,D,u,t,[],none,rfl,B.up b,a,x.up (dX.of b) _,⋯,aZ.of ad,by simp,λ_ H2 T=>⟨MX _,λU G=>?_⟩,λy j=>by rw[M]at j;cases j⟩;have r:=(b.trans T).trans (ae (o:=.tup []) G);exact⟨g,v,U,C,n,m,D,u,t.d,Y,p,c,k,[],rfl,B.up r,J,x.up (dX.of r) _,L,Z,aZ.of ad,by simp,λl H4 h0 h4 S=>q l H4 (ia r h0) h4 (r.trans S)⟩
  ·exact⟨g,v,O,C,n,m,D,u,t,[],none,rfl,B.up b,a,x.up (dX.of b) _,hd,aZ.of ad,by simp,λh=>(by rw[j]at h;cases h),λy' e=>(by rw[j]at e;cases e;exact bad.up b)⟩
def m5(rs:Yaa)(i:Int):Int:=match rs[i.toNat]? with | some r=>r.2.c | none=>0
theorem Gr.sh:∀{k:Nat} {d:Dt} {nm:Nw} {p:bN} {c:Int},Gr rs d nm p c k->∃ns:List Int,Sh k d ns/\(ns.map (m5 rs)).sum=c/\∀i∈ns,0<=i/\i<rs.length:=by
 intro k d nm p c g
 induction g with
 | @cell n v e=>
  have u:=(My.mp e).1;refine⟨[(n:Int)],⟨n,[],[],rfl,rfl,rfl,by simp,λj w q h=>by simp at h⟩,?_,λi hi=>?_⟩
  ·show m5 rs (n:Int)+0=v.c
   unfold m5;rw[MI,e,Int.add_zero]
  ·rw[MB.mp hi];omega
 | @turn n v d p c k e g ih=>
  obtain⟨ns,h1,h2,r⟩:=ih;have u:=(My.mp e).1;refine⟨(n:Int)::ns,⟨n,[d],[ns],rfl,by simp,rfl,by simp,λj w q a b=>?_⟩,?_,λi hi=>?_⟩
  ·match j,a,b with
   |0,a,b=>cases a;cases b;exact h1
   |j+1,a,_=>simp at a
  ·rw[M5,List.sum_cons,h2]
   unfold m5;rw[MI,e]
  ·rcases MO.mp hi with rfl | hi
   ·omega
   ·exact r i hi
 | @pair n kd v d1 d2 p1 p2 p c1 c2 k1 k2 hk e g1 g2 m ih1 ih2=>
  obtain⟨o,h1,h2,r⟩:=ih1;obtain⟨l,B,y,x⟩:=ih2;have u:=(My.mp e).1;refine⟨(n:Int)::(o++l),⟨n,[d1,d2],[o,l],rfl,by simp,rfl,by simp,λj w q a b=>?_⟩,?_,λi hi=>?_⟩
  ·match j,a,b with
   |0,a,b=>cases a;cases b;exact h1.mono ⋯
   |1,a,b=>cases a;cases b;exact B.mono ⋯
   |j+2,a,_=>simp at a
  ·rw[M5,List.sum_cons,ML,List.sum_append,h2,y]
   unfold m5;rw[MI,e]
  ·rcases MO.mp hi with rfl | hi
   ·omega
   ·rcases MM.mp hi with hi | hi
    ·exact r i hi
    ·exact x i hi
abbrev ow:Stmt:=ij 36
inductive qw(R:RC)(CG:Addr)(vs:List V)(H:Hp)(Q:VK)(_E:XK):Prop
 |mk (g:Addr) (v:V) (rs:Yaa) (d:Dt) (p:bN) (c:Int) (_:vs=[.ref g,v]) (_:oJ R CG H g v rs d p c) (_:∀H',az H H'->Q (.int c) H')
theorem zj:aw ["grammar","tree"] ["grammar","tree"] (aj ow):=by walk_at "c"
theorem x8{f yac:Addr}(F:cF K "cost_of" "cost_of" ow f fd)(nb:NB mg)(yan:mg "sum"=none)(rk:pJ K R)(yag:↑cg 1 CG "rule" ["self","k"] (cr R CG))(yav:dU P w K mg base (bG P w) 66 "laid" ["grammar","tree"] (pW K R CG yac))(yaT:↑dU 19 "numbers_in" ["tree"] (iG 18)):↑aS 67 f fd ["grammar","tree"] (qw R CG):=by
 have sc:=zj;walk_at "f"
 ·obtain⟨g,v,a,d,p,c,rfl,Z,q⟩:=h
  refine⟨_,(af (bH (aJ (CX:=bG P w) yav (hr.mono nofun) rfl bt (aa (al 0) (aa (al 1) ac))))
   (ai (aF (av (nV rfl) rfl yan y6 (aa (cH ["number"] [0] rfl (bE.of (by kernel_rfl)) (by kernel_rfl) (cK (aJ yaT (hr.mono nofun) rfl ba (aa (al 1) ac)))
    (λ_ _ _ _=>(aB (i:=0) (by show(["number","grammar"]:List Str).Nodup;decide +kernel) rfl (Or.inl rfl))) (λ_ _ _ _=>ce) (λ_ _ _ _=>(AM (K:=K) rfl (bS yag (hr.mono nofun) ba (al 1) (aa (al 0) ac)) rfl))) ac))))),?_⟩
  ext;refine⟨g,v,a,rfl,.inl ⟨d,p,c,Z,λl0 H1 _ _ S=>?_⟩⟩;have L:=Z.up S;obtain⟨dx,sg,st,as,nm,k,hG,hgd,h24,ht,hg,Y⟩:=id L;obtain⟨e,o,m,G⟩:=hg.sh;refine⟨v,d,e,rfl,ht,o.mono Y,λl H2 hl0 U O=>?_⟩;ext;have M:=hG.up O;have hlen:e.length<262145:=by
   have h:=(o.mono Y).len;have:(2:Nat) ^ 18=262144:=by decide
   omega
  refine⟨⟨_,aW.of U⟩,?_⟩;refine fF (as:=e) (emb:=V.int) (f:=λi=>some (V.int (m5 a i))) (λσ=>∃z,σ=[z,some (V.ref g)]) ⟨_,rfl⟩ (λH' s=>aW.of (s _ _ U)) ⋯ ?_ ?_
  ·rintro j i hj σ H' N1 N0 ⟨z0,rfl⟩ C k1 _
   obtain⟨hi0,hi1⟩:=G i (MD hj);obtain⟨n,rfl⟩:∃n:Nat,i=(n:Int):=⟨i.toNat,⋯⟩;have T:n<a.length:=by omega
   obtain⟨r,x⟩:∃r,a[n]?=some r:=⟨_,Mx T⟩;have B:=M.up C;obtain⟨lk,pn,t,ha,hkk,u,hN,hmm⟩:=id B;have I:n<as.length:=by rw[u.1];exact T
   obtain⟨b,y⟩:∃b,as[n]?=some b:=⟨_,Mx I⟩;obtain⟨rdx,rl,D,hrl⟩:=u.2 n b r y x;ext;refine⟨_,_,ha,rfl,g,dx,sg,st,as,a,n,b,rfl,B,y,_,rfl,_,_,_,D,(rk.icls r.1).cl,(rk.name r.1).2.1,_,(iT rl r.2 r.1).2.1,k1 _ _ _ ?_ C ⟨_,rfl⟩⟩;unfold m5;rw[MI,x]
  ·intro H3 C l2 J
   rw[C4 e _ (g:=λi=>V.int (m5 a i)) (λ_ _=>rfl)];refine⟨e.map (m5 a),by rw[MN];exact aW.of ad,?_⟩;rw[m];exact q _ (((S.trans O).trans C).trans (ae J))
theorem rV{rs:Yaa}(h:∀r∈rs,fj r):eF rs:=λq hq=>⟨(h q hq).k4,(h q hq).good.c1,(h q hq).good.c9⟩
inductive Sd(rs:Yaa):aQ->TR->bN->Prop
 |cell {n:Nat} {v:RV}:rs[n]?=some (0,v)->Sd rs (.n0 n) (v.n,1,1,v.c) [v.sg]
 |turn {n:Nat} {v:RV} {t:aQ} {r c:Nat} {k:Int} {pc:bN}:rs[n]?=some (3,v)->Sd rs t (v.o1,r,c,k) pc->Sd rs (.n1 n t) (v.n,if v.t%2=1 then c else r,if v.t%2=1 then r else c,v.c+k) (turned pc v.t.toNat)
 |beside {n:Nat} {v:RV} {t1 t2:aQ} {r c1 c2:Nat} {k1 k2:Int} {q1 q2 pc:bN}:rs[n]?=some (1,v)->Sd rs t1 (v.o1,r,c1,k1) q1->Sd rs t2 (v.o2,r,c2,k2) q2->iH 1 v [q1,q2]=some pc->Sd rs (.n2 n t1 t2) (v.n,r,c1+c2,v.c+(k1+k2)) pc
 |above {n:Nat} {v:RV} {t1 t2:aQ} {r1 r2 c:Nat} {k1 k2:Int} {q1 q2 pc:bN}:rs[n]?=some (2,v)->Sd rs t1 (v.o1,r1,c,k1) q1->Sd rs t2 (v.o2,r2,c,k2) q2->iH 2 v [q1,q2]=some pc->Sd rs (.n2 n t1 t2) (v.n,r1+r2,c,v.c+(k1+k2)) pc
theorem pj{p:bN}(h1:fV p1 r c)(h2:fV p2 r' c')(m:iH 1 v [p1,p2]=some p):r=r'/\fV p r (c+c'):=by
 have l:=bT h1.rc h1.r0;have k:=bT h2.rc h2.r0;have e:=h1.rc.1;have b:=h2.rc.1;have a:(if p1.length=p2.length/\(p1.headD []).length+(p2.headD []).length<=6 then some (put2 p1 p2) else none)=some p:=m
 by_cases c0:p1.length=p2.length/\(p1.headD []).length+(p2.headD []).length<=6
 ·rw[q07 c0]at a
  cases a;rw[e,b,l,k]at c0;refine⟨c0.1,⟨⟨by unfold put2;rw[MA,q0K,e,b];omega,λx g=>?_⟩,h1.r0,h1.r6,by have:=h1.c0;omega,c0.2⟩⟩;unfold put2 at g;obtain⟨y,j,rfl⟩:=Ng.mp g;have:=List.of_mem_zip j;rw[MV,h1.rc.2 _ this.1,h2.rc.2 _ this.2]
 ·rw[q06 c0]at a;cases a
theorem rp{p:bN}(h1:fV p1 r c)(h2:fV p2 r' c')(m:iH 2 v [p1,p2]=some p):c=c'/\fV p (r+r') c:=by
 have j:=bT h1.rc h1.r0;have g:=bT h2.rc h2.r0;have e:=h1.rc.1;have b:=h2.rc.1;have a:(if(p1.headD []).length=(p2.headD []).length/\p1.length+p2.length<=6 then some (p1++p2) else none)=some p:=m
 by_cases c0:(p1.headD []).length=(p2.headD []).length/\p1.length+p2.length<=6
 ·rw[q07 c0]at a
  cases a;rw[e,b,j,g]at c0;refine⟨c0.1,⟨⟨by rw[MV,e,b],λx hx=>?_⟩,by have:=h1.r0;omega,c0.2,h1.c0,h1.c6⟩⟩;rcases MM.mp hx with hx | hx
  ·exact h1.rc.2 _ hx
  ·rw[h2.rc.2 _ hx];exact c0.1.symm
 ·rw[q06 c0]at a;cases a
theorem IS{v:RV}(h0:0<=v.t):(v.t%2=1)↔¬ (v.t.toNat%2=0):=by omega
theorem Cq{v:RV}{pc:bN}(h0:0<=v.t)(h:fV pc r c):fV (turned pc v.t.toNat) (if v.t%2=1 then c else r) (if v.t%2=1 then r else c):=by
 have hr:=xD h.rc h.r0 h.c0 v.t.toNat;have o:=IS h0
 by_cases e:v.t.toNat%2=0
 ·rw[q07 e,q07 e]at hr
  rw[q06 (λz=>(o.mp z) e),q06 (λz=>(o.mp z) e)];exact⟨hr,h.r0,h.r6,h.c0,h.c6⟩
 ·rw[q06 e,q06 e]at hr
  rw[q07 (o.mpr e),q07 (o.mpr e)];exact⟨hr,h.c0,h.c6,h.r0,h.r6⟩
theorem Sd.pic{rs:Yaa}(hg:∀r∈rs,fj r){t:aQ}{p:TR}{pc:bN}(h:Sd rs t p pc):fV pc p.2.1 p.2.2.1:=by
 induction h with
 | @cell n v e=>
  have:=nR (hg _ (MD e)).good.sg;exact⟨⟨rfl,λx a=>by rw[MB.mp a];exact this⟩,(show 0<1 by decide),(show 1<=6 by decide),(show 0<1 by decide),(show 1<=6 by decide)⟩
 | @turn n v t r c k pc e _ ih=>exact Cq (hg _ (MD e)).good.t0 ih
 |beside e _ _ m ih1 ih2=>exact(pj ih1 ih2 m).2
 |above e _ _ m ih1 ih2=>exact(rp ih1 ih2 m).2
theorem GC(r c:Nat):fw r c=fw c r:=by rw[iB,iB,Nat.mul_comm]
theorem Sd.low{rs:Yaa}(hg:∀r∈rs,fj r){t:aQ}{p:TR}{pc:bN}(h:Sd rs t p pc):fw p.2.1 p.2.2.1<=p.2.2.2/\((t.cnt:Nat):Int)<=p.2.2.2:=by
 induction h with
 | @cell n v e=>
  have a:1<=v.c:=(hg _ (MD e)).good.c1;exact⟨by show fw 1 1<=v.c;rw[iB];simp;omega,by show((1:Nat):Int)<=v.c;omega⟩
 | @turn n v t r c k pc e _ ih=>
  have a:1<=v.c:=(hg _ (MD e)).good.c1;have h1:fw r c<=k:=ih.1;have h2:((t.cnt:Nat):Int)<=k:=ih.2;refine⟨?_,by show((t.cnt+1:Nat):Int)<=v.c+k;omega⟩;show fw (if v.t%2=1 then c else r) (if v.t%2=1 then r else c)<=v.c+k
  split
  ·rw[GC];omega
  ·omega
 | @beside n v t1 t2 r c1 c2 k1 k2 q1 q2 pc e _ _ m ih1 ih2=>
  have a:1<=v.c:=(hg _ (MD e)).good.c1;have h1:fw r c1<=k1:=ih1.1;have h2:fw r c2<=k2:=ih2.1;have g:((t1.cnt:Nat):Int)<=k1:=ih1.2;have b:((t2.cnt:Nat):Int)<=k2:=ih2.2;refine⟨?_,by show((t1.cnt+t2.cnt+1:Nat):Int)<=v.c+(k1+k2);omega⟩;show fw r (c1+c2)<=v.c+(k1+k2);rw[iB]at h1 h2 ⊢;rw[Nat.mul_add];omega
 | @above n v t1 t2 r1 r2 c k1 k2 q1 q2 pc e _ _ m ih1 ih2=>
  have a:1<=v.c:=(hg _ (MD e)).good.c1;have h1:fw r1 c<=k1:=ih1.1;have h2:fw r2 c<=k2:=ih2.1;have g:((t1.cnt:Nat):Int)<=k1:=ih1.2;have b:((t2.cnt:Nat):Int)<=k2:=ih2.2;refine⟨?_,by show((t1.cnt+t2.cnt+1:Nat):Int)<=v.c+(k1+k2);omega⟩;show fw (r1+r2) c<=v.c+(k1+k2);rw[iB]at h1 h2 ⊢;rw[Nat.add_mul];omega
theorem aQ.dep_cnt:∀t:aQ,t.dep<=t.cnt
 | .n0 _=>MW _
 | .n1 _ a=>by have:=aQ.dep_cnt a;simp only[aQ.dep,aQ.cnt];omega
 | .n2 _ a b=>by have:=aQ.dep_cnt a;have:=aQ.dep_cnt b;simp only[aQ.dep,aQ.cnt];omega
theorem Sd.gr{t:aQ}{pc:bN}(h:Sd rs t p pc):Gr rs t.d p.1 pc p.2.2.2 t.dep:=by
 induction h with
 |cell e=>exact .cell e
 |turn e _ ih=>exact .turn e ih
 |beside e _ _ m ih1 ih2=>exact .pair (.inl rfl) e ih1 ih2 m
 |above e _ _ m ih1 ih2=>exact .pair (.inr rfl) e ih1 ih2 m
theorem Sd.node{rs:Yaa}(hg:∀r∈rs,fj r){t:aQ}{p:TR}{pc:bN}(h:Sd rs t p pc):∃(n:Nat) (q:Nat×RV) (ps:List TR),t.i=(n:Int)/\rs[n]?=some q/\q.2.n=p.1/\ps.length=t.ps.length/\ps.length<=2/\(∀(i:Nat) t' p',t.ps[i]?=some t'->ps[i]?=some p'->∃pc',Sd rs t' p' pc'/\p'.2.2.2<p.2.2.2)/\ps∈cG q p.2.1 p.2.2.1 p.2.2.2:=by
 cases h with
 | @cell n v e=>
  refine⟨n,(0,v),[],rfl,e,rfl,rfl,by simp,λi t' p' h=>by simp[aQ.ps]at h,?_⟩;show[]∈(if 1=1/\1=1/\v.c=v.c then[[]] else[]);simp
 | @turn n v t r c k pc e s=>
  have l:1<=v.c:=(hg _ (MD e)).good.c1;refine⟨n,(3,v),[(v.o1,r,c,k)],rfl,e,rfl,rfl,by simp,λi t' p' h1 h2=>?_,?_⟩
  ·match i,h1,h2 with
   |0,h1,h2=>cases h1;cases h2;exact⟨_,s,by show k<v.c+k;omega⟩
   |i+1,h1,_=>simp[aQ.ps]at h1
  ·show[(v.o1,r,c,k)]∈[[(v.o1,(if v.t%2=1 then(if v.t%2=1 then r else c) else(if v.t%2=1 then c else r)),(if v.t%2=1 then(if v.t%2=1 then c else r) else(if v.t%2=1 then r else c)),v.c+k-v.c)]]
   by_cases o:v.t%2=1<;>simp[o]<;>omega
 | @beside n v t1 t2 r c1 c2 k1 k2 q1 q2 pc e s1 s2 m=>
  have l:1<=v.c:=(hg _ (MD e)).good.c1;have a:=(s1.low hg).1;have j:=(s2.low hg).1;have g:=s1.pic hg;have b:=s2.pic hg;have w:1<=fw r c1:=b6 g.r0 g.c0;have u:1<=fw r c2:=b6 b.r0 b.c0;have a:fw r c1<=k1:=a;have j:fw r c2<=k2:=j;refine⟨n,(1,v),[(v.o1,r,c1,k1),(v.o2,r,c2,k2)],rfl,e,rfl,rfl,by simp,λi t' p' h1 h2=>?_,?_⟩
  ·match i,h1,h2 with
   |0,h1,h2=>cases h1;cases h2;exact⟨_,s1,by show k1<v.c+(k1+k2);omega⟩
   |1,h1,h2=>cases h1;cases h2;exact⟨_,s2,by show k2<v.c+(k1+k2);omega⟩
   |i+2,h1,_=>simp[aQ.ps]at h1
  ·show _∈bx v.o1 v.o2 (gG r (c1+c2)) (v.c+(k1+k2)-v.c)
   have h1:=g.c0;have h2:=b.c0;simp only at h1 h2;refine List.mem_flatMap.mpr ⟨((r,c1),(r,c2)),Ng.mpr ⟨c1-1,List.mem_range.mpr ⋯,?_⟩,Ng.mpr ⟨k1,kM.mpr ⟨a,by show k1<v.c+(k1+k2)-v.c-fw r c2+1;omega⟩,?_⟩⟩
   ·rw[show 1+(c1-1)=c1 by omega,show c1+c2-c1=c2 by omega]
   ·rw[show v.c+(k1+k2)-v.c-k1=k2 by omega]
 | @above n v t1 t2 r1 r2 c k1 k2 q1 q2 pc e s1 s2 m=>
  have l:1<=v.c:=(hg _ (MD e)).good.c1;have a:=(s1.low hg).1;have j:=(s2.low hg).1;have g:=s1.pic hg;have b:=s2.pic hg;have w:1<=fw r1 c:=b6 g.r0 g.c0;have u:1<=fw r2 c:=b6 b.r0 b.c0;have a:fw r1 c<=k1:=a;have j:fw r2 c<=k2:=j;refine⟨n,(2,v),[(v.o1,r1,c,k1),(v.o2,r2,c,k2)],rfl,e,rfl,rfl,by simp,λi t' p' h1 h2=>?_,?_⟩
  ·match i,h1,h2 with
   |0,h1,h2=>cases h1;cases h2;exact⟨_,s1,by show k1<v.c+(k1+k2);omega⟩
   |1,h1,h2=>cases h1;cases h2;exact⟨_,s2,by show k2<v.c+(k1+k2);omega⟩
   |i+2,h1,_=>simp[aQ.ps]at h1
  ·show _∈bx v.o1 v.o2 (gR (r1+r2) c) (v.c+(k1+k2)-v.c)
   have h1:=g.r0;have h2:=b.r0;simp only at h1 h2;refine List.mem_flatMap.mpr ⟨((r1,c),(r2,c)),Ng.mpr ⟨r1-1,List.mem_range.mpr ⋯,?_⟩,Ng.mpr ⟨k1,kM.mpr ⟨a,by show k1<v.c+(k1+k2)-v.c-fw r2 c+1;omega⟩,?_⟩⟩
   ·rw[show 1+(r1-1)=r1 by omega,show r1+r2-r1=r2 by omega]
   ·rw[show v.c+(k1+k2)-v.c-k1=k2 by omega]
theorem Sd.row{rs:Yaa}(hg:∀r∈rs,fj r){t:aQ}{p:TR}{pc:bN}(h:Sd rs t p pc)(k16:p.2.2.2<=16):fN p:=by
 have:=h.pic hg;exact⟨this.r0,this.r6,this.c0,this.c6,k16⟩
theorem Az{rs:Yaa}{p:TR}{n:Nat}{q:Nat×RV}{ps:List TR}(hq:rs[n]?=some q)(hn:q.2.n=p.1)(hps:ps∈cG q p.2.1 p.2.2.1 p.2.2.2)(h0:0<aR (CN rs) ps)(hf:fw p.2.1 p.2.2.1<=p.2.2.2):(n,ps,aR (CN rs) ps)∈a_ rs p:=by
 unfold a_;rw[q06 ⋯];refine List.mem_flatMap.mpr ⟨n,?_,?_⟩
 ·unfold bW
  exact List.mem_filterMap.mpr ⟨(q,n),List.mem_zipIdx_iff_getElem?.mpr hq,by rw[q07 (by rw[hn])]⟩
 ·unfold dA
  rw[hq];exact List.mem_filterMap.mpr ⟨ps,hps,by rw[q07 h0]⟩
abbrev nY:Stmt:=ij 12
inductive rg(K:W.Frag)(vs:List V)(H:Hp)(Q:VK)(_E:XK):Prop
 |mk (a:Addr) (p:bN) (r c:Nat) (_:vs=[.ref a]) (_:aW K H a (aH p)) (_:fE p r c) (_:0<r) (_:c<=64) (_:∀(tp:Addr) (H':Hp),H tp=none->H' tp=some (.tup [V.int (r:Int),V.int (c:Int)])->az H H'->Q (.ref tp) H')
theorem zh:aw ["picture"] ["picture"] (aj nY):=by walk_at "c"
theorem zK{f:Addr}(F:cF K "size_of" "size_of" nY f fd)(nb:NB mg):↑aS 1 f fd ["picture"] (rg K):=by
 have sc:=zh;walk_at "f"
 ·obtain⟨a,p,r,c,rfl,l,k,g,hc1,q⟩:=h
  refine⟨_,(ai (aF (aG (aa (av bi rfl nb.len aV (aa (al 0) ac)) (aa (av bb rfl nb.len aV (aa (aE bg (al 0) ah (λ_ _=>rfl)) ac)) ac))))),?_⟩;ext;obtain⟨j,e⟩:=fR k g;refine⟨_,l,_,l,_,aU (bp j),_,rfl,by rw[aA];exact ak ⋯,ak ⋯,λm b=>?_⟩;rw[ar,k.1,aA,e];exact q m _ b ad (ae b)
abbrev qP:Stmt:=ij 42
inductive om(R:RC)(CG:Addr)(vs:List V)(H:Hp)(Q:VK)(_E:XK):Prop
 |mk (g:Addr) (v:V) (rs:Yaa) (t:aQ) (p:TR) (pc:bN) (_:vs=[.ref g,v]) (_:oJ R CG H g v rs t.d pc p.2.2.2) (_:Sd rs t p pc) (_:∀b H',H' b=some (.tup (b5 p))->az H H'->Q (.ref b) H')
theorem CM:aw ["grammar","tree","size"] ["grammar","tree"] (aj qP):=by walk_at "c"
theorem Ca{f yac:Addr}(F:cF K "row_of" "row_of" qP f fd)(nb:NB mg)(rk:pJ K R)(yag:↑cg 1 CG "rule" ["self","k"] (cr R CG))(yav:dU P w K mg base (bG P w) 66 "laid" ["grammar","tree"] (pW K R CG yac))(ybp:↑dU 1 "size_of" ["picture"] (rg K))(ybh:↑dU 67 "cost_of" ["grammar","tree"] (qw R CG)):↑aS 68 f fd ["grammar","tree"] (om R CG):=by
 have sc:=CM;walk_at "f"
 ·obtain⟨g,v,y,t,p,D,rfl,O,sd,q⟩:=h
  refine⟨_,(af (q01 2 sc.nd (aJ ybp (hr.mono nofun) rfl ba (aa (aJ (CX:=bG P w) yav (hr.mono nofun) rfl bt (aa (al 0) (aa (al 1) ac))) ac)))
   (ai (aF (au cB (au cB (aG (aa (bJ (bS yag (hr.mono nofun) ba (al 0) (aa (aE aC (al 1) ah (λ_ _=>rfl)) ac)) rfl) ac)) (al 2)) (aG (aa (aJ ybh (hr.mono nofun) rfl ba (aa (al 0) (aa (al 1) ac))) ac)))))),?_⟩
  have c:∀r∈y,fj r:=by obtain⟨dx,U,T,B,nm,k,S,c,_⟩:=O;exact c
  have C:=sd.pic c;obtain⟨n,e,ps,hi,hq,hn,_⟩:=sd.node c;symm;refine⟨g,v,y,rfl,.inl ⟨t.d,D,p.2.2.2,O,λl0 H1 _ e1 s1=>?_⟩⟩;refine⟨l0,D,p.2.1,p.2.2.1,rfl,aW.of e1,C.rc,C.r0,by have:=C.c6;omega,λtp H2 _ e2 s2=>h1 _ _ ?_⟩;clear h1;have l:=s1.trans s2;have x:=O.up l;obtain⟨dx,U,T,B,nm',k',S,_,h24,ht,_,hd⟩:=id x;obtain⟨a,vs,rfl,G,htr⟩:=aQ.val ht;obtain⟨lk,pn,t0,ha,hkk,m,hN,hmm⟩:=id S;have M:n<B.length:=by rw[m.1];exact(My.mp hq).1
  obtain⟨b,u⟩:∃b,B[n]?=some b:=⟨_,Mx M⟩;obtain⟨rdx,rl,I,hrl⟩:=m.2 n b e u hq;ext;refine⟨_,_,ha,rfl,_,aZ.of G,_,wE _ _,g,dx,U,T,B,y,n,b,by rw[hi],S,u,b,rfl,_,_,_,I,(rk.icls e.1).cl,(rk.name e.1).1,_,(iT rl e.2 e.1).1,ak nofun,λp1 L=>?_⟩;have s3:=ae (o:=.tup [V.str (tx e.2.n)]) L;refine dh (xs:=[V.str (tx e.2.n)]) ad (s3 _ _ e2) (by simp) (by simp) λp2 H4 e4 s4=>?_;have j:=s3.trans s4;refine⟨g,_,y,t.d,D,p.2.2.2,rfl,x.up j,λH5 Z=>⟨ak nofun,λp3 J=>?_⟩⟩;have Y:=ae (o:=.tup [V.int p.2.2.2]) J;refine dh (Y _ _ (Z _ _ e4)) ad (by simp) (by simp) λp4 H7 e7 s7=>q p4 H7 ?_ ((l.trans j).trans ((Z.trans Y).trans s7));rw[e7,hn]
  rfl
theorem Ci(h:jV (b5 p) (b5 p')=true):p=p':=by
 obtain⟨a,r,c,k⟩:=p;obtain⟨q,e,o,g⟩:=p';unfold jV at h;have h:=(q0L _ _▸h).1;have b:∀j,j<4->_:=λj l=>Nh.mp h j (List.mem_range.mpr l);have h1:tx a=tx q:=by have:=b 0 nofun;simpa[b5,l9]using this
 have h2:r=e:=by have:=b 1 nofun;simp[b5,l9]at this;omega
 have n:c=o:=by have:=b 2 nofun;simp[b5,l9]at this;omega
 have m:k=g:=by have:=b 3 nofun;simpa[b5,l9]using this
 have:=dW h1;subst this h2 n m
 rfl
theorem nP(p:TR):(b5 p).all eM=true:=rfl
theorem BF{ps ps':List TR}:pM (ps.map b5) (ps'.map b5)=true↔ps=ps':=by
 refine⟨λh=>?_,λh=>?_⟩
 ·unfold pM at h
  split at h
  ·rename_i hl
   rw[MA,MA]at hl;refine List.ext_getElem hl λi h1 h2=>?_;have:=Nh.mp h i (List.mem_range.mpr (by rw[MA];exact h1));rw[MC,MC,Mx h1,Mx h2]at this;exact Ci this
  ·cases h
 ·rw[h]
  refine tK λr hr=>?_;obtain⟨p,_,rfl⟩:=Ng.mp hr;exact nP p
theorem HK.fl{ps:List TR}(h:HK H l ps):Ik K H l (ps.map b5):=by
 obtain⟨bs,o,h1,h2,e⟩:=h;refine⟨bs,.inl (.inr ⟨o,h1⟩),by rw[MA,h2],λi b r g a=>?_⟩;rw[MC]at a;obtain⟨p,c,rfl⟩:=M3.mp a;exact⟨aZ.of (e i b p g c),nP p⟩
theorem qN.fl{ps:List TR}(h:qN H l ps):Ik K H l (ps.map b5):=by
 obtain⟨bs,h1,h2,e⟩:=h;refine⟨bs,aW.of h1,by rw[MA,h2],λi b r g a=>?_⟩;rw[MC]at a;obtain⟨p,c,rfl⟩:=M3.mp a;exact⟨aZ.of (e i b p g c),nP p⟩
theorem CK{ps:List TR}{k j:Nat}{ts:List aQ}{t:aQ}(hl:ps.length<=1)(h1:(bQ F ps)[k]?=some ts)(h2:(F p)[j]?=some t):(bQ F (ps++[p]))[k*(F p).length+j]?=some (ts++[t]):=by
 have b:=(My.mp h2).1
 match ps,hl,h1 with
 | [],_,h1=>
  have:k=0/\ts=[]:=by
   cases k with
   |zero=>exact⟨rfl,by simpa[bQ]using h1.symm⟩
   |succ k=>simp[bQ]at h1
  obtain⟨rfl,rfl⟩:=this;show(bQ F [p])[0*(F p).length+j]?=_;rw[iI,Nat.zero_mul,Nat.zero_add,h2]
  rfl
 | [p1],_,h1=>
  rw[iI]at h1;obtain⟨t1,a,rfl⟩:=M3.mp h1;refine tP (F:=F) ?_ ?_
  ·rw[Nat.add_comm,Nat.add_mul_div_right _ _ ⋯,Nat.div_eq_of_lt b,Nat.zero_add];exact a
  ·rw[Nat.add_comm,Nat.add_mul_mod_self_right,Nat.mod_eq_of_lt b];exact h2
theorem FC{q:Nat×RV}{p1 p2:TR}(h4:q.1<4)(hc:1<=q.2.c)(ok:fN p)(h:[p1,p2]∈cG q p.2.1 p.2.2.1 p.2.2.2):p1.2.2.2<=7\/p2.2.2.2<=7:=by
 have:=ok.k16;rcases eY h4 ok.r1 ok.c1 h with e | ⟨p',e,_⟩ | ⟨_,z,f,sz,f1,f2,e⟩
 ·cases e
 ·cases e
 ·cases e
  show f<=7\/p.2.2.2-q.2.c-f<=7;omega
theorem qG{α:Type}{l:List α}{i:Nat}{x:α}(h:l[i]?=some x):l.take (i+1)=l.take i++[x]:=by rw[q0D,h];rfl
abbrev bZ:Stmt:=fu 41 7
inductive ck(R:RC)(CG CT:Addr)(n:Nat)(vs:List V)(H:Hp)(Q:VK)(_E:XK):Prop
 |mk (a dx g dg d1 d2:Addr) (sg st:Nw) (as:NA) (rs:Yaa) (m:Nat) (v:V) (t:aQ) (p:TR) (pc:bN) (_:vs=[.ref a,v]) (_:gX R CG CT H a dx g dg d1 d2 sg st as rs m) (_:cE H t.d v) (_:t.dep<=n) (_:(∀r∈rs,fj r)) (_:Sd rs t p pc) (_:qd st rs m p) (_:∀(k:Nat) H',(RT rs p)[k]?=some t->b8 d1 d2 H H'->dY st rs m H' d1 d2->Q (.int (k:Int)) H')
theorem jw:aw ["self","tree","rows","within","row","part","passed","number","others","many"] ["self","tree"] (aj bZ):=by walk_at "c"
theorem pz{f CT yaa:Addr}{n:Nat}(hn:n<18)(F:cF K "number_in" "TreeRows.number_in" bZ f fd)(nb:NB mg)(ct:fQ K CT)(nt:aq K CT "grammar"/\aq K CT "steps"/\aq K CT "totals")(yaB:↑dU 68 "row_of" ["grammar","tree"] (om R CG))
  (yak:cg P w K mg base (bG P w) 71 CT "steps_of" ["self","row"] (bX R CG CT yaa 17)) (yah:cg P w K mg base (bG P w) 72 CT "many_in" ["self","row"] (bz R CG CT yaa 17)) (yaU:cg P w K mg base (bG P w) (73+n) CT "number_in" ["self","tree"] (ck R CG CT n)) :
  aS P w K mg base (bG P w) (73+n+1) f fd ["self","tree"] (ck R CG CT (n+1)):=by
 have sc:=jw;walk_at "x"
 ·obtain⟨a,dx,g,dg,d1,d2,sg,st,as,C,m,v,t,p,pc,rfl,_⟩:=h;rfl
 ·obtain⟨a,dx,g,dg,d1,d2,sg,st,as,C,m,v,t,p,pc,rfl,r,ht,hd,a1,sd,dp,q⟩:=h
  have hu:=hr.units;refine⟨_,(af (jp (i:=2) ["part"] [0] sc.nd rfl (Or.inl rfl) rfl  rfl (bE.of (by kernel_rfl)) (by kernel_rfl) (yI (cJ oF (al 1) (cW ah) dN))
    (λ_ _ _ _=>(aB (i:=0) (by show(["part","self"]:List Str).Nodup;decide +kernel) rfl (Or.inl rfl))) (λ_ _ _ _=>ce) (λ_ _ _ _=>(aJ (CX:=bG P w) yaB.lift (hr.mono ⋯) rfl bt (aa (AM (K:=K) rfl (al 1) rfl) (aa (al 0) ac)))))
   (af (q01 3 sc.nd ah)
   (af (bP PassesOwn.leaving rfl (FY rfl nb.zip (aa (al 2) (aa (cJ oF (al 1) (cW ah) dN) ac))) (fB (n:=2) rfl (aM (q02 4 sc.nd) (aM (q02 5 sc.nd) cY)))
   (ai (q01 3 sc.nd (au (bc.m0 bF) (au (bc.m1 fA) (al 3) (bS yah (hr.mono ⋯) (aY λ_ _ _ h=>h) (al 0) (aa (al 4) ac))) (bS yaU (hr.mono ⋯) (aY λ_ _ _ h=>h) (al 0) (aa (al 5) ac))))))
   (af (q01 6 sc.nd ah)
   (af (bP PassesOwn.leaving rfl (cK (bS yak (hr.mono ⋯) (aY λ_ _ _ h=>h) (al 0) (aa (aJ (CX:=bG P w) yaB.lift (hr.mono ⋯) rfl bt (aa (bJ (al 0) rfl) (aa (al 1) ac))) ac))) (fB (n:=3) rfl (aM (q02 7 sc.nd) (aM (q02 8 sc.nd) (aM (q02 9 sc.nd) cY))))
   (af (bC (aK (HQ hu) (aG (aa (al 7) (aa (al 8) ac))) (aG (aa (aE aC (al 1) ah (λ_ _=>rfl)) (aa (al 2) ac))) (aN _))
   (ai Eu)
   aL)
   (ai (q01 6 sc.nd (au (bc.m0 bF) (al 6) (al 9))))))
   (ai (aF (au (bc.m0 bF) (al 6) (al 3))))))))),?_⟩
  obtain⟨ta,vs,rfl,c9,b1⟩:=aQ.val ht;obtain⟨nn,q0,ps,hi,hq,g2,g0,g1,f9,a0⟩:=sd.node a1;have hvl:=oE b1;have d3:=sd.low a1;have hdc:=t.dep_cnt;have k16:=dp.k16;have ok:=dp.row r.m6;obtain⟨q4,qc,qc9⟩:=r.gc q0 (MD hq);have hcut:t.cnt<=1000:=by omega
  have c2:∀(i:Nat) S,t.ps[i]?=some S->∃p' J,ps[i]?=some p'/\Sd C S p' J/\qd st C m p'/\p'.2.2.2<=15/\S.dep<=n/\S.cnt<=1000:=λi S G=>by
   have u:=(My.mp G).1;have c:ps[i]?=some (ps[i]'⋯):=Mx ⋯;obtain⟨J,L,lt'⟩:=f9 i S _ G c;have hm:=aQ.lt (MD G);have:=b6 ok.r1 ok.c1;exact⟨_,J,c,L,(dp.part r.gc (MD hq) ⋯ a0 (MD c)).1,⋯,⋯,⋯⟩
  symm;refine⟨_,aZ.of c9,qb _ _,λpt f7=>?_⟩;rw[Eg];have s1:=ae (o:=.tup vs) f7;have e1:ay H pt (.tup vs) pt=some (.tup vs):=ad;generalize ay H pt (.tup vs)=H1 at s1 e1 ⊢;refine⟨⟨_,aZ.of e1⟩,?_⟩;refine DR (xs:=vs) (λi O σ H'=>az H1 H'/\i<=vs.length/\(∃bs:List Addr,O=bs.map V.ref/\bs.length=i/\∀(j:Nat) b p',bs[j]?=some b->ps[j]?=some p'->H' b=some (.tup (b5 p')))/\∃z,σ=[z,some (V.ref a)])
   ⟨az.refl _,MX _,⟨[],rfl,rfl,λj b p' h=>by simp at h⟩,_,rfl⟩ (λi O σ H' h=>by obtain⟨_,h1,⟨bs,rfl,h2,_⟩,_⟩:=h;rw[MA,h2];exact MR (M8 _) (ak ⋯)) (λi O σ H' h=>h.2.1) (λi O σ H' h=>aZ.of (h.1 _ _ e1)) ?_ ?_
  ·rintro i x O σ H2 hx ⟨sm,d4,⟨bs,rfl,b3,a6⟩,z,rfl⟩
   obtain⟨S,G,b0⟩:=oR b1 hx;obtain⟨p',J,c,L,M,_,d5,g4⟩:=c2 i S G;have s2:=s1.trans sm;ext;refine⟨CT,dx,_,s2 _ _ r.at_,ct.cl,nt.1,_,rfl,g,x,C,S,p',J,rfl,⟨dg,sg,st,as,_,_,r.gr.up s2,a1,r.n24,b0.up (dX.of s2) _,L.gr,⋯⟩,L,λb H5 hb s5=>⟨sm.trans s5,(My.mp hx).1,bs++[b],by rw[ML];rfl,by rw[MV,b3];rfl,λj b' p2 e1 e2=>?_⟩⟩;rcases Nat.lt_or_ge j bs.length with hj | hj
   ·rw[MU hj]at e1
    exact s5 _ _ (a6 j b' p2 e1 e2)
   ·have:j=bs.length:=by have:=(My.mp e1).1;simp at this;omega
    subst this;rw[MT (MW _),Nat.sub_self]at e1;cases e1;rw[b3,c]at e2;cases e2;exact hb
  ·rintro O σ H2 ⟨sm,_,⟨bs,rfl,b3,a6⟩,z,rfl⟩ l hl
   refine h1 _ _ ?_;clear h1;have s2:=(s1.trans sm).trans (ae (o:=.lst (bs.map V.ref)) hl);have hT:qN (ay H2 l (.lst (bs.map V.ref))) l ps:=⟨bs,ad,⋯,λi b p' e1 e2=>ae hl _ _ (a6 i b p' e1 e2)⟩;generalize ay H2 l (.lst (bs.map V.ref))=H3 at s2 hT ⊢;clear a6;symm;refine h1 _ _ ?_;grind;have a7:=s2 _ _ c9;refine⟨_,aZ.of a7,qb _ _,λpu f6=>?_⟩;rw[Eg];have s3:=ae (o:=.tup vs) f6;have e3:ay H3 pu (.tup vs) pu=some (.tup vs):=ad;generalize ay H3 pu (.tup vs)=H4 at s3 e3 ⊢;have a3:=s2.trans s3;have B:=r.up a3;have e0:=hT.kp (Kp.of s3);obtain⟨cs,d6,g5,g6⟩:=id e0;have c5:=aP.up (dX.of a3) _ b1;refine⟨_,aW.of d6,_,aZ.of e3,?_⟩;refine BL (xs:=cs.map V.ref) (ys:=vs) (by rw[MA];omega) (λi σ H'=>b8 d1 d2 H4 H'/\dY st C m H' d1 d2/\i<=cs.length/\∃(U:Nat) (y z:Option V),(bQ (RT C) (ps.take i))[U]?=some (t.ps.take i)/\σ=[some (V.ref a),some (V.ref ta),some (V.ref l),some (V.int (U:Int)),y,z,none,none,none,none])
    ⟨λ_ _ _ _ e=>e,B.mm,MX _,0,_,_,by rw[Nq,Nq];rfl,rfl⟩ (λi σ H' _ h=>⟨aW.of ((B.kp h.1).lst d6),aZ.of ((B.kp h.1).tup e3)⟩) ?_ ?_
   ·rintro i x y σ H5 T hx hy ⟨sD,mm,d4,U,z1,z2,D,rfl⟩ h4
    have u:i<cs.length:=by have:=(My.mp hx).1;rwa [MA]at this
    rw[MC,Mx u]at hx;cases hx;obtain⟨S,G,b0⟩:=oR c5 hy;obtain⟨p',J,c,L,M,hk15,d5,g4⟩:=c2 i S G;have hb:=g6 i cs[i] p' (Mx u) c;generalize cs[i]'u=b at hb ⊢;have sT:=ae (o:=.tup [V.ref b,y]) h4;have eT:ay H5 T (.tup [V.ref b,y]) T=some (.tup [V.ref b,y]):=ad;generalize ay H5 T (.tup [V.ref b,y])=H6 at sT eT ⊢;have I:=B.next sD mm;have a2:=I.up sT;have Y:b8 d1 d2 H4 H6:=sD.trans (.of sT);ext;have g3:i=0\/i=1:=by omega
    have e5:=bU r.gc (M.row r.m6);refine⟨_,aZ.of eT,rfl,_,_,rfl,_,_,rfl,rfl,dx,_,a2.at_,rfl,a,dx,g,dg,d1,d2,b,sg,st,as,C,m,p',rfl,a2,(B.kp Y).tup hb,.inl ⟨M,nofun,⋯,λH7 s7 a4=>⟨_,rfl,?_,dx,_,(a2.next s7 a4).at_,rfl,a,dx,g,dg,d1,d2,sg,st,as,C,m,y,S,p',J,rfl,a2.next s7 a4,b0.up (λb xs e=>(B.kp (Y.trans s7)).tup e) _,d5,a1,L,M,λk H8 hk s8 e8=>⟨_,rfl,(Y.trans s7).trans s8,e8,u,U*CN C p'+k,?_,by push_cast;rfl⟩⟩⟩⟩
    ·rcases g3 with rfl | rfl
     ·left
      have:U=0:=by
       rw[Nq]at D;cases U with
       |zero=>rfl
       |succ w=>simp[bQ]at D
      omega
     ·obtain⟨p1,p2,rfl⟩:∃p1 p2,ps=[p1,p2]:=by
       match ps,g1,(show 1<ps.length by omega) with
       | [p1,p2],_,_=>exact⟨p1,p2,rfl⟩
      cases c;have b4:=(dp.part r.gc (MD hq) (by have:=b6 ok.r1 ok.c1;omega) a0 (p':=p1) (by simp)).1;rcases FC q4 qc ok a0 with h | h
      ·left
       have h64:=r.sm p1 b4.rm b4.cm h;have hw:(bQ (RT C) [p1])[U]?=some (t.ps.take 1):=D;rw[iI]at hw;obtain⟨t1,f5,_⟩:=M3.mp hw;have:=(My.mp f5).1;rw[bU r.gc (b4.row r.m6)]at this;omega
      ·right
       have:=r.sm _ M.rm M.cm h;omega
    ·rw[qG c,qG G,<- e5]
     exact CK (by rw[Nb];omega) D hk
   ·rintro σ H5 ⟨sD,mm,_,U,z1,z2,D,rfl⟩
    refine h1 _ _ ?_;grind;refine h1 _ _ ?_;grind;have I:=B.next sD mm;have f0:=B.kp sD;refine⟨dx,_,I.at_,rfl,CT,dx,_,I.at_,ct.cl,nt.1,_,rfl,g,_,C,t,p,pc,rfl,⟨dg,sg,st,as,_,_,I.gr,a1,r.n24,ht.up (λb xs e=>f0.tup (a3 _ _ e)) _,sd.gr,⋯⟩,sd,λb H6 hb s6=>?_⟩;refine⟨a,dx,g,dg,d1,d2,b,sg,st,as,C,m,p,rfl,I.up s6,hb,.inl ⟨dp,nofun,⋯,λl2 H7 s7 a4 _ hZ=>?_⟩⟩;have e7:b8 d1 d2 H H7:=(((b8.of a3).trans sD).trans (.of s6)).trans s7;have e6:=(I.up s6).next s7 a4;have c0:=B.kp ((sD.trans (.of s6)).trans s7);have h3:=e0.kp c0;have c6:H7 ta=some (.tup (V.int t.i::vs)):=c0.tup (s3 _ _ a7);rw[MA,g5,Na,show ps.length=t.ps.length from g0,Na]at D;have hsl:=oH r.gc ok r.n24;obtain⟨ts,o,c4,f3,f4⟩:=id hZ;refine⟨l2,rfl,⟨_,.inl (.inr ⟨o,c4⟩)⟩,?_⟩;refine dO (xs:=ts.map V.ref) (λi σ H'=>az H7 H'/\(i<=ts.length/\∀(j:Nat) s,j<i->(a_ C p)[j]?=some s->¬ (s.1=nn/\s.2.1=ps))/\∃x y z,σ=[some (V.ref a),some (V.ref ta),some (V.ref l),some (V.int (U:Int)),z1,z2,some (V.int ((((a_ C p).take i).map λs=>s.2.2).sum:Nat)),x,y,z])
     ⟨az.refl _,⟨MX _,λj s h=>q0N h ⋯⟩,_,_,_,rfl⟩ (λi σ H' _ h=>.inl (.inr ⟨o,h.1 _ _ c4⟩)) ?_ ?_
    ·rintro i x σ H8 hx ⟨s8,⟨d4,b2⟩,x1,y1,w1,rfl⟩
     have u:i<ts.length:=by have:=(My.mp hx).1;rwa [MA]at this
     rw[MC,Mx u]at hx;cases hx;obtain⟨Z,a5⟩:∃s,(a_ C p)[i]?=some s:=⟨_,Mx ⋯⟩;obtain⟨rl,he,g7⟩:=f4 i _ Z (Mx u) a5;generalize ts[i]'u=t0 at he;have d0:=tX (λs:wv=>s.2.2) _ _ _ a5;have d7:=g7.kz (Kp.of s8).z;have g8:=h3.kp (Kp.of s8);generalize f8:(((a_ C p).take i).map λs=>s.2.2).sum=pas at d0;ext;refine⟨_,aZ.of (s8 _ _ he),rfl,_,_,rfl,_,_,rfl,_,_,rfl,rfl,ak nofun,λu1 f2=>?_⟩;have s9:=ae (o:=.tup [V.int (Z.1:Int),V.ref rl]) f2;have e9:ay H8 u1 (.tup [V.int (Z.1:Int),V.ref rl]) u1=some (.tup [V.int (Z.1:Int),V.ref rl]):=ad;generalize ay H8 u1 (.tup [V.int (Z.1:Int),V.ref rl])=H9 at s9 e9 ⊢;refine⟨_,aZ.of (s9 _ _ (s8 _ _ c6)),_,wE _ _,ak nofun,λu2 f1=>?_⟩;have a9:=ae (o:=.tup [V.int t.i,V.ref l]) f1;have e4:ay H9 u2 (.tup [V.int t.i,V.ref l]) u2=some (.tup [V.int t.i,V.ref l]):=ad;generalize ay H9 u2 (.tup [V.int t.i,V.ref l])=H10 at a9 e4 ⊢;have sA:=s9.trans a9;refine⟨_,_,_,aZ.of (a9 _ _ e9),_,aZ.of e4,_,(d7.kz (Kp.of sA).z).fl,_,(g8.kp (Kp.of sA)).fl,?_⟩;have c3:(decide ((Z.1:Int)=t.i)&&pM (Z.2.1.map b5) (ps.map b5))=true↔(Z.1=nn/\Z.2.1=ps):=by
      rw[q0L,q0W,BF,hi];exact⟨λh=>⟨⋯,h.2⟩,λh=>⟨⋯,h.2⟩⟩
     by_cases hk:Z.1=nn/\Z.2.1=ps
     ·rw[q07 (c3.mpr hk)]
      refine h1 _ _ ?_;ext;have a8:=Fl r.gc ok a5 (j:=U) (ts:=t.ps) (by rw[hk.2];exact D);rw[f8,hk.1,<- hi,Ay]at a8;have sB:=s8.trans sA;have:=q (pas+U) H10 a8 (e7.trans (.of sB)) (e6.up sB).mm
      push_cast at this
      exact this
     ·rw[q06 (λh=>hk (c3.mp h))]
      refine⟨_,rfl,s8.trans sA,u,λj s hj hs=>?_,by rw[d0];push_cast;rfl⟩;rcases Nat.lt_or_ge j i with h | h
      ·exact b2 j s h hs
      ·have:j=i:=by omega
       subst this;rw[a5]at hs;cases hs;exact hk
    ·rintro σ H8 ⟨_,⟨_,b2⟩,_⟩
     have h0:0<aR (CN C) ps:=by
      have:=(My.mp D).1;rw[fG (g:=CN C) λp' c=>bU r.gc ((dp.part r.gc (MD hq) (by have:=b6 ok.r1 ok.c1;omega) a0 c).1.row r.m6)]at this;omega
     obtain⟨j,hj⟩:=List.getElem?_of_mem (Az hq g2 a0 h0 d3.1);exact q0N ⟨rfl,rfl⟩ (b2 j _ (by rw[MA,f3];exact(My.mp hj).1) hj)
theorem wY{f CT:Addr}(F:cF K "number_in" "TreeRows.number_in" bZ f fd):aS P w K mg base (bG P w) 73 f fd ["self","tree"] (ck R CG CT 0):=by
 have b:∀{vs:List V} {H:Hp} {Q:VK} {E:XK},¬ ck R CG CT 0 vs H Q E:=λh=>by
  obtain⟨a,dx,g,dg,d1,d2,sg,st,as,rs,m,v,t,p,pc,_,_,_,h0,_⟩:=h;exact q0N t.dep1 ⋯
 exact F.okX (k:=72) (sp:=ck R CG CT 0) jw (λvs H Q E h=>q0N h b) (λcdv A outer s H vs Q E hr h=>q0N h b)
theorem lU{f CT yaa:Addr}(F:cF K "number_in" "TreeRows.number_in" bZ f fd)(nb:NB mg)(ct:fQ K CT)(nt:aq K CT "grammar"/\aq K CT "steps"/\aq K CT "totals")(me:dc K CT "number_in" f)(b:cq K fd ["self","tree"] [])(yaB:↑dU 68 "row_of" ["grammar","tree"] (om R CG))
  (yak:cg P w K mg base (bG P w) 71 CT "steps_of" ["self","row"] (bX R CG CT yaa 17)) (yah:cg P w K mg base (bG P w) 72 CT "many_in" ["self","row"] (bz R CG CT yaa 17)) :
  ∀n,n<=18->cg P w K mg base (bG P w) (73+n) CT "number_in" ["self","tree"] (ck R CG CT n)
 |0,_=>⟨f,fd,wY F,ct.cl,me,b⟩
 |n+1,h=>⟨f,fd,pz ⋯ F nb ct nt yaB yak yah (lU F nb ct nt me b yaB yak yah n ⋯),ct.cl,me,b⟩
theorem yH{CT dg d1 d2:Addr}{st:Nw}(gr:dB R H CG dg g sg st as rs)(ok:oY st rs m)(s2:az H H2)(n12:d1≠d2)(ex:H2 x=some (.ins CT dx (IH g d1 d2)))(ed1:H2 d1=some (.dT []))(ed2:H2 d2=some (.dT [])):gX R CG CT H2 x dx g dg d1 d2 sg st as rs m:=
 ⟨ex,n12,gr.up s2,ok.gc,ok.gt,ok.sm,ok.m6,ok.n24,ok.nz,[],[],ed1,ed2,⟨List.nodup_nil,List.nodup_nil,(λk h=>nomatch h),(λk h=>nomatch h),(λp h=>by cases h)⟩,λp v h=>by cases h⟩
abbrev oI:Stmt:=ij 44
inductive sf(R:RC)(CG CN_ CU_:Addr)(vs:List V)(H:Hp)(Q:VK)(E:XK):Prop
 |mk (g dg:Addr) (sg st:Nw) (as:NA) (rs:Yaa) (m:Nat) (p:TR) (k:Int) (_:vs=[.ref g,.str (tx p.1),.int (p.2.1:Int),.int (p.2.2.1:Int),.int p.2.2.2,.int k]) (_:dB R H CG dg g sg st as rs) (_:oY st rs m) (_:((qd st rs m p/\(∀(j:Nat) t,k=(j:Int)->(RT rs p)[j]?=some t->∀v H',az H H'->cE H' t.d v->Q v H')/\((k<0\/(CN rs p:Int)<=k)->∀H',az H H'->E (.ref CU_) none H'))\/(tx p.1∉(bf (tx st) rs).map (·.1)/\∀H',az H H'->E (.ref CN_) none H')))
theorem yL:aw ["grammar","name","rows","columns","cost","k"] ["grammar","name","rows","columns","cost","k"] (aj oI):=by walk_at "c"
theorem zb{f CT yaa yab:Addr}(F:cF K "tree_at" "tree_at" oI f fd)(nb:NB mg)(ct:fQ K CT)(nt:aq K CT "grammar"/\aq K CT "steps"/\aq K CT "totals")
  (yam:↑lz 1 "TreeRows" CT ["self","grammar"] (fz K)) (yay:cg P w K mg base (bG P w) 107 CT "tree_in" ["self","row","k"] (cv R CG CT yaa yab 17)) :
  aS P w K mg base (bG P w) 108 f fd ["grammar","name","rows","columns","cost","k"] (sf R CG yaa yab):=by
 have sc:=yL;walk_at "x"
 ·obtain⟨g,T,D,C,Z,G,m,p,k,rfl,_⟩:=h;rfl
 ·obtain⟨g,T,D,C,Z,G,m,p,k,rfl,gr,ok,cs⟩:=h
  have hu:=hr.units;refine⟨_,(ai (aF (bS yay (hr.mono nofun) (aY λ_ _ _ h=>h) (gl yam (hr.mono nofun) rfl ba (aa (al 0) ac)) (aa (aG (aa (al 1) (aa (al 2) (aa (al 3) (aa (al 4) ac))))) (aa (al 5) ac))))),?_⟩;ext;intro x l hx L J;have a:az H (ay (ay H l (.own x)) x (.ins CT l [])):=(ae L).trans (ae (by rw[ao (Ne.symm J)];exact hx));refine⟨x,CT,l,g,rfl,ad,ct.cl,nt,λY U H2 f1 f2 I ex S O sx=>⟨rfl,l,_,ex,rfl,ak nofun,λb hb=>?_⟩⟩;have s2:az H H2:=λy u e=>sx y u (aI e hx) (a y u e);have B:=ae (o:=.tup (b5 p)) hb;have c:=s2.trans B;have te:gX R CG CT (ay H2 b (.tup (b5 p))) x l g T Y U D C Z G m:=yH gr ok c I (B _ _ ex) (B _ _ S) (B _ _ O);have r:∀{n},b8 Y U (ay H2 b (.tup (b5 p))) n->az H n:=λsd y u e=>sd y u (λz=>by rw[z,a.free f1]at e;cases e) (λz=>by rw[z,a.free f2]at e;cases e) (c y u e);refine⟨x,l,g,T,Y,U,b,D,C,Z,G,m,p,k,rfl,te,ad,nofun,?_⟩;rcases cs with⟨dp,q,bad⟩ | ⟨nn,M⟩
  ·exact .inl ⟨dp,by have:=dp.k16;omega,λj t hj ht v n sd mm hv=>q j t hj ht v n (r sd) hv,λhk n sd mm=>bad hk n (r sd)⟩
  ·exact .inr ⟨nn,M _ c⟩
abbrev j0:Stmt:=ij 45
inductive jj(K:W.Frag)(R:RC)(CG CF:Addr)(vs:List V)(H:Hp)(Q:VK)(E:XK):Prop
 |mk (g dg:Addr) (sg st:Nw) (as:NA) (rs:Yaa) (m:Nat) (v:V) (t:aQ) (_:vs=[.ref g,v]) (_:dB R H CG dg g sg st as rs) (_:oY st rs m) (_:(∀r∈rs,fj r)) (_:cE H t.d v) (_:t.dep<=60) (_:((∃(p:TR) (pc:bN),Sd rs t p pc/\qd st rs m p/\∀(k:Nat) H',(RT rs p)[k]?=some t->az H H'->Q (.int (k:Int)) H')\/(∃y,cf rs t [] none=some y/\mW K CF H E y)))
theorem vR:aw ["grammar","tree"] ["grammar","tree"] (aj j0):=by walk_at "c"
theorem u5{f CT yac:Addr}(F:cF K "number_of" "number_of" j0 f fd)(nb:NB mg)(ct:fQ K CT)(nt:aq K CT "grammar"/\aq K CT "steps"/\aq K CT "totals")
  (yav:dU P w K mg base (bG P w) 66 "laid" ["grammar","tree"] (pW K R CG yac)) (yam:↑lz 1 "TreeRows" CT ["self","grammar"] (fz K)) (yaU:cg P w K mg base (bG P w) 89 CT "number_in" ["self","tree"] (ck R CG CT 16)) :
  aS P w K mg base (bG P w) 90 f fd ["grammar","tree"] (jj K R CG yac):=by
 have sc:=vR;walk_at "x"
 ·obtain⟨g,B,n,l,C,o,m,v,t,rfl,_⟩:=h;rfl
 ·obtain⟨g,B,n,l,C,o,m,v,t,rfl,gr,ok,c,J,r,cs⟩:=h
  have hu:=hr.units;refine⟨_,(af (bH (aJ (E:=E) yav (hr.mono nofun) rfl (aY λ_ _ _ h=>h) (aa (al 0) (aa (al 1) ac))))
   (ai (aF (bS yaU (hr.mono nofun) (aY λ_ _ _ h=>h) (gl yam (hr.mono nofun) rfl ba (aa (al 0) ac)) (aa (al 1) ac))))),?_⟩
  rcases cs with⟨p,pc,sd,dp,q⟩ | ⟨y,hy,bad⟩
  rotate_left
  ·symm
   exact⟨g,v,o,rfl,.inr ⟨B,n,l,C,t,y,gr,ok.n24,J,r,hy,bad⟩⟩
  have hdc:=t.dep_cnt;have hlow:=(sd.low c).2;have:=dp.k16;symm;refine⟨g,v,o,rfl,.inl ⟨t.d,pc,p.2.2.2,⟨B,n,l,C,_,_,gr,c,ok.n24,J,sd.gr,⋯⟩,λl0 H1 _ e1 G=>h1 _ _ ?_⟩⟩;clear h1;ext;intro x j hx M L;have a:az H1 (ay (ay H1 j (.own x)) x (.ins CT j [])):=(ae M).trans (ae (by rw[ao (Ne.symm L)];exact hx));refine⟨x,CT,j,g,rfl,ad,ct.cl,nt,λY U Z f1 f2 I ex T S sx=>⟨rfl,j,_,ex,rfl,?_⟩⟩;have s2:az H1 Z:=λy u e=>sx y u (aI e hx) (a y u e);have b:=G.trans s2;have te:gX R CG CT Z x j g B Y U n l C o m:=yH gr ok b I ex T S;have O:∀{D},b8 Y U Z D->az H D:=λsd y u e=>sd y u (λz=>by rw[z,(G.trans a).free f1]at e;cases e) (λz=>by rw[z,(G.trans a).free f2]at e;cases e) (b y u e);exact⟨x,j,g,B,Y,U,n,l,C,o,m,v,t,p,pc,rfl,te,J.up (dX.of b) _,⋯,c,sd,dp,λk D hk sd mm=>q k D hk (O sd)⟩
theorem Cy{CT yaa:Addr}{fd1 fd2 fd3 fd4:ND}{t1:Tok}(F1:cF K "many_in" "TreeRows.many_in" cu f1 fd1)(F2:cF K "steps_of" "TreeRows.steps_of" cw f2 fd2)(F3:cF K "reckoned" "TreeRows.reckoned" cy f3 fd3)(F4:cF K "many_together" "TreeRows.many_together" bw f4 fd4)
  (nb:NB mg) (yan:mg "sum"=none) (yai:mg "MOST"=some (.int 6 t1)) (ct:fQ K CT) (nt:aq K CT "grammar"/\aq K CT "steps"/\aq K CT "totals") (me1:dc K CT "many_in" f1) (me2:dc K CT "steps_of" f2) (me3:dc K CT "reckoned" f3) (me4:dc K CT "many_together" f4)
  (b1:cq K fd1 ["self","row"] []) (b2:cq K fd2 ["self","row"] []) (b3:cq K fd3 ["self","row"] []) (b4:cq K fd4 ["self","rows"] [])
  (yal:↑dU 1 "fewest" ["size"] (iM K)) (yap:cg P w K mg base (bG P w) 1 CG "numbers_of" ["self","name"] (cz R CG yaa)) (yag:↑cg 1 CG "rule" ["self","k"] (cr R CG)) (yao:↑pO 3 "part_rows" (lL R)) :
  cg P w K mg base (bG P w) 71 CT "steps_of" ["self","row"] (bX R CG CT yaa 17):=by
 have a:=jO F1 F2 F3 F4 nb yan yai ct nt me1 me2 me3 me4 b1 b2 b3 b4 yal yap yag yao 16;have b:cg P w K mg base (bG P w) 69 CT "many_together" ["self","rows"] (cS R CG CT 16):=⟨f4,fd4,fZ (n:=16) F4 nb a,ct.cl,me4,b4⟩;have c:cg P w K mg base (bG P w) 70 CT "reckoned" ["self","row"] (fk R CG CT yaa 17):=⟨f3,fd3,jW (n:=16) F3 nb yai ct nt yal yap yag yao b,ct.cl,me3,b3⟩;exact⟨f2,fd2,jR (n:=16) F2 nb yan ct nt c,ct.cl,me2,b2⟩
abbrev nZ:Stmt:=ij 59
inductive rK(K:W.Frag)(vs:List V)(H:Hp)(Q:VK)(_E:XK):Prop
 |mk (a:Addr) (ns:List Int) (b m:Nat) (_:vs=[.ref a,.int (b:Int),.int (m:Int)]) (_:aW K H a (ns.map V.int)) (_:b<=100) (_:1<=m) (_:m<=100) (_:∀(l:Addr) (cs:List Int) (H':Hp),H l=none->H' l=some (.lst (cs.map V.int))->1<=cs.length->cs.length<=m->az H H'->Q (.ref l) H')
theorem zo:aw ["_law_script","_law_begin","_law_most","_law_many"] ["_law_script","_law_begin","_law_most"] (aj nZ):=by walk_at "c"
theorem yO{f:Addr}(F:cF K "_law_cells" "_law_cells" nZ f fd)(nb:NB mg)(zwa:↑dU 1 "_law_cell" ["_law_script","_law_k"] (oq K)):↑aS 2 f fd ["_law_script","_law_begin","_law_most"] (rK K):=by
 have sc:=zo;walk_at "f"
 ·obtain⟨a,u,b,m,rfl,y,hb,hm1,hm,q⟩:=h
  refine⟨_,(af (q01 3 sc.nd (au (bc.m0 cX) (al 2) (au (bc.m1 bR) (au (bc.m1 br) (aJ zwa (hr.mono nofun) rfl ba (aa (al 0) (bj ac))) (al 2)) ah)))
   (ai (aF (cH ["_law_k"] [0] rfl (bE.of (by kernel_rfl)) (by kernel_rfl) (kX rfl nb.range (aa (al 1) (aa (au (bc.m0 bF) (al 1) (al 3)) ac)))
    (λ_ _ _ _=>(aB (i:=0) (by show(["_law_k","_law_script"]:List Str).Nodup;decide +kernel) rfl (Or.inl rfl))) (λ_ _ _ _=>ce) (λ_ _ _ _=>(aJ zwa (hr.mono nofun) rfl ba (aa (al 1) (aa (al 0) ac)))))))),?_⟩
  symm;refine⟨a,u,62,rfl,y,⋯,λc=>⟨_,rfl,⋯,h1 _ _ ?_⟩⟩;clear h1;obtain⟨n,B⟩:∃n:Nat,(m:Int)-c%(m:Int)/2=(n:Int):=⟨((m:Int)-c%(m:Int)/2).toNat,by have:=Nm c (b:=(m:Int)) ⋯;have:=Nn c (b:=(m:Int)) ⋯;omega⟩;have hn2:1<=n/\n<=m:=by have:=Nm c (b:=(m:Int)) ⋯;have:=Nn c (b:=(m:Int)) ⋯;omega
  rw[B];ext;refine⟨⋯,⋯,⋯,⋯,?_⟩;rw[show((b:Int)+(n:Int)-(b:Int)).toNat=n by omega];refine fD (λi g σ o=>az H o/\i<=n/\(∃j:List Int,g=j.map V.int/\j.length=i)/\∃z,σ=[z,some (V.ref a)]) ⟨λ_ _ e=>e,MX _,⟨[],rfl,rfl⟩,_,rfl⟩ ?_ (λi g σ o h=>h.2.1) ?_ ?_
  ·rintro i g σ o ⟨_,x,⟨j,rfl,k⟩,_⟩
   rw[MA,k];exact bq ⋯
  ·rintro i g σ o x ⟨p,_,⟨j,rfl,k⟩,z,rfl⟩
   ext;exact⟨a,u,b+i,by simp,p.seq y,⋯,λc=>⟨p,x,⟨j++[c],by simp,by simp[k]⟩⟩⟩
  rintro g σ H4 ⟨r,_,⟨j,rfl,k⟩,_⟩;intro l v;exact q l j _ (r.free v) ad ⋯ ⋯ (r.trans (ae v))
abbrev jP:Stmt:=ij 64
inductive nF(R:RC)(CG:Addr)(vs:List V)(H:Hp)(Q:VK)(_E:XK):Prop
 |mk (l:Addr) (sg st:Nw) (ts:NA) (rs:Yaa) (_:vs=[.str (tx sg),.str (tx st),.ref l]) (_:iz H l ts rs) (_:(∀r∈rs,fj r)) (_:rs.length<=24) (_:sg.length<=100) (_:st.length<=100) (_:io sg st rs=none) (_:∀b db as H',dB R H' CG db b sg st as rs->az H H'->Q (.ref b) H')
theorem vb:aw ["_law_signs_here","_law_start","_law_rules"] ["_law_signs_here","_law_start","_law_rules"] (aj jP):=by walk_at "c"
theorem wq{f zda:Addr}(F:cF K "_law_grammar" "_law_grammar" jP f fd)(nb:NB mg)(gk:JZ K CG)(zFe:↑dU 6 "_law_rule" ["_law_rule_here"] (oy R))(zJc:lz P w K mg base (bG P w) 4 "Grammar" CG ["self","signs","start","rules"] (ji K R zda)):↑aS 7 f fd ["_law_signs_here","_law_start","_law_rules"] (nF R CG):=by
 have sc:=vb;walk_at "f"
 ·obtain⟨l,J,I,ts,M,rfl,o,C,hn,hsg,hst,U,q⟩:=h
  refine⟨_,(ai (aF (gl (CX:=bG P w) zJc (hr.mono nofun) rfl bt (aa (pv 0) (aa (pv 1) (aa (cH ["_law_rule_here"] [] rfl (bE.of (by kernel_rfl)) (by kernel_rfl) (cK (pv 2))
    (λ_ _ _ _=>(aB (i:=0) (by show(["_law_rule_here"]:List Str).Nodup;decide +kernel) rfl (Or.inl rfl))) (λ_ _ _ _=>ce) (λ_ _ _ _=>(aJ zFe (hr.mono nofun) rfl ba (aa (pv 0) ac)))) ac)))))),?_⟩
  ext;refine⟨⟨_,aW.of o.1⟩,yp o C ⋯ λj m L S c B x k p g v=>?_⟩;have n:az m (ay m c (.lst (j.map V.ref))):=ae B;have D:ay m c (.lst (j.map V.ref)) c=some (.lst (j.map V.ref)):=ad;generalize ay m c (.lst (j.map V.ref))=H3 at n D p g ⊢;have a:az H3 (ay (ay H3 k (.own x)) x (.ins CG k [])):=(ae g).trans (ae (by rw[ao (Ne.symm v)];exact p));refine⟨x,CG,k,c,J,I,j,M,rfl,ad,gk.cl.cl,gk.na,⋯,⋯,a _ _ D,(S.up n).up a,λr hr=>(C r hr).k4,⋯,(λ_ Y lk pn t G T _ _ _=>⟨rfl,?_⟩),λy O=>nomatch O.symm.trans U⟩;exact q x k _ Y T.f ((L.trans n).trans λb u e=>G b u (aI e p) (a b u e))
abbrev mJ:Stmt:=ij 65
inductive oU(K:W.Frag)(vs:List V)(H:Hp)(Q:VK)(_E:XK):Prop
 |mk (a:Addr) (p:bN) (r c t:Nat) (_:vs=[.ref a,.int (t:Int)]) (_:H a=some (.lst (aH p))) (_:fE p r c) (_:0<r) (_:0<c) (_:r<=64) (_:c<=64) (_:t<8) (_:∀l H',H l=none->H' l=some (.lst (aH (turned p t)))->az H H'->Q (.ref l) H')
theorem wH:aw ["_law_picture","_law_t","_law_turn","_law_rows","_law_column"] ["_law_picture","_law_t"] (aj mJ):=by walk_at "c"
theorem wA{f:Addr}(F:cF K "_law_turned" "_law_turned" mJ f fd)(nb:NB mg):↑aS 1 f fd ["_law_picture","_law_t"] (oU K):=by
 have sc:=wH;walk_at "f"
 ·obtain⟨a,p,r,c,t,rfl,hS,hp,hr0,hc0,hr1,hc1,ht,q⟩:=h
  refine⟨_,(af (bC (aK (bc.m0 jx) (al 1) ah (aN _))
   (ai (jp (i:=0) ["_law_row"] [] sc.nd rfl (Or.inl rfl) rfl  rfl (bE.of (by kernel_rfl)) (by kernel_rfl) (cK (al 0))
    (λ_ _ _ _=>(aB (i:=0) (by show(["_law_row"]:List Str).Nodup;decide +kernel) rfl (Or.inl rfl))) (λ_ _ _ _=>ce) (λ_ _ _ _=>(qZ rfl rfl nb.reversed (aa (al 0) ac)))))
   aL)
   (af (bP PassesOwn.never rfl (eS rfl nb.range (aa (au (bc.m1 br) (al 1) ah) ac)) (q02 2 sc.nd)
   (af (q01 3 sc.nd (bK ac))
   (af (bP PassesOwn.never rfl (eS rfl nb.range (aa (av bb rfl nb.len aV (aa (aE bg (al 0) ah (λ_ _=>rfl)) ac)) ac)) (aB (i:=4) sc.nd rfl (Or.inr rfl))
   (ai (bH (q03 (al 3) (aa (@AK _ _ _ _ _ _ _ _ (aa (cH ["_law_row"] [4] rfl (bE.of (by kernel_rfl)) (by kernel_rfl) (yd rfl nb.reversed (aa (al 0) ac))
    (λ_ _ _ _=>(aB (i:=0) (by show(["_law_row","_law_column"]:List Str).Nodup;decide +kernel) rfl (Or.inl rfl))) (λ_ _ _ _=>ce) (λ_ _ _ _=>(aE oh (al 0) (al 1) (λ_ _=>rfl)))) ac) rfl rfl) ac)))))
   (ai (q01 0 sc.nd (al 3))))))
   (ai (aF (eG cV rfl nb.list jm (aa (al 0) ac)))))),?_⟩
  refine am λN2 h2=>?_;have loop:∀(l2:Addr) (p':bN) (H2:Hp) (y1 y2 y3:Option V),H2 l2=some (.lst (aH p'))->az H H2->fE p' r c->turned p t=bD (t%4) p'->N2 [some (V.ref l2),some (V.int t),y1,y2,y3] H2:=by
   intro l2 p' H2 y1 y2 y3 hH2 sm2 hp' et;refine h2 _ _ ?_;clear h2;refine am λN3 h3=>?_;ext;refine⟨⋯,⋯,?_⟩;have e4:((t:Int)%4).toNat=t%4:=by omega
   rw[e4];refine gF (lo:=0) (n:=t%4) (λi σ H3=>∃(l3:Addr) (x1 x2 x3:Option V),σ=[some (V.ref l3),some (V.int t),x1,x2,x3]/\H3 l3=some (.lst (aH (bD i p')))/\az H H3) ⟨l2,_,_,_,rfl,hH2,sm2⟩ ?_ ?_
   ·rintro i σ H3 hi ⟨l3,x1,x2,x3,rfl,h4,sm3⟩
    have hq:=dl i hp' hr0 hc0;obtain⟨r',c',g3,g4,g5,g6⟩:∃r' c',fE (bD i p') r' c'/\0<r'/\r'<=64/\c'<=64:=by
     by_cases hi2:i%2=0
     ·rw[q07 hi2,q07 hi2]at hq;exact⟨r,c,hq,hr0,hr1,hc1⟩
     ·rw[q06 hi2,q06 hi2]at hq;exact⟨c,r,hq,hc0,hc1,hr1⟩
    have hqa:bD (i+1) p'=gj (bD i p'):=(ng 1 i p').symm;generalize bD i p'=pq at h4 g3 hqa;have hl0:0<pq.length:=by rw[g3.1];exact g4
    have hcc:(pq[0]).length=c':=g3.2 _ (MH hl0);have hh:(pq.headD []).length=c':=bT g3 g4;rw[hqa];ext;refine⟨MX _,λlr hlr=>?_⟩;have s4:=ae (o:=.lst []) hlr;have e4:ay H3 lr (.lst []) lr=some (.lst []):=ad;generalize ay H3 lr (.lst [])=H4 at s4 e4 ⊢;have h0:gZ (aH pq) 0=some (V.str (tx pq[0])):=(show gZ _ ((0:Nat):Int)=_ from aU (bp hl0));refine⟨_,aW.of (s4 _ _ h4),_,h0,_,rfl,by rw[aA];exact ak ⋯,by rw[aA];omega,by rw[aA];omega,?_⟩;rw[aA,hcc,MI];refine gF (lo:=0) (n:=c') (λj σ H5=>az H3 H5/\j<=c'/\H5 lr=some (.lst (aH ((List.range j).map (col pq))))/\∃y,σ=[some (V.ref l3),some (V.int t),some (V.int (i:Int)),some (V.ref lr),y]) ⟨s4,MX _,e4,_,rfl⟩ ?_ ?_
    ·rintro j σ H5 hj ⟨s5,_,e5,y,rfl⟩
     have hl35:=s5 _ _ h4;ext;have hrow:∀x∈pq,x.length=c':=g3.2;have hpq:pq.length<=64:=by rw[g3.1];exact g5
     refine⟨.inl ⟨rfl,_,aW.of e5⟩,rfl,_,aW.of hl35,xY (xs:=aH pq) (λn acc σ H'=>H'=H5/\acc=((pq.reverse.take n).map λr=>V.str ⟨#[r.getD j 0]⟩)/\n<=pq.length/\∃x,σ=[x,some (.int (j:Int))]) ⟨rfl,rfl,MX _,_,rfl⟩ ?_ ?_ ?_ ?_ ?_⟩
     ·rintro n acc σ H' ⟨_,rfl,_⟩
      refine bq ?_;rw[MA,Nb,MQ];omega
     ·rintro n acc σ H' ⟨_,_,h,_⟩
      rw[ar];exact h
     ·rintro n acc σ H' ⟨rfl,_⟩
      exact aW.of hl35
     ·rintro n x acc σ H' hx ⟨rfl,rfl,hn,y,rfl⟩
      have hl:n<pq.reverse.length:=by
       have:=(My.mp hx).1
       rwa [MQ,ar,<- MQ (as:=pq)]at this
      have hx':(aH pq.reverse)[n]?=some x:=by unfold aH at hx ⊢;rwa [List.map_reverse]
      rw[bp hl]at hx';cases hx';have hm:pq.reverse[n]∈pq:=List.mem_reverse.mp (MH hl);have hr:=hrow _ hm;ext;have hc:(tx pq.reverse[n]).cps.toList[j]?=some (pq.reverse[n].getD j 0):=by rw[g9,q0A,Mx ⋯];rfl
      refine⟨by rw[aA];exact ak ⋯,_,aU hc,?_,by rw[MQ]at hl;exact hl⟩;rw[q0D,Mx hl,ML]
      rfl
     ·rintro acc σ H' ⟨rfl,rfl,_⟩ l hl
      rw[ar,<- MQ (as:=pq),Na]at *;refine⟨(col pq j).map λc=>(⟨#[c]⟩:Str),.inl (aW.of ?_),?_,_,ae hl _ _ e5,?_,?_,hj,?_⟩
      ·rw[ad];unfold col;rw[MN,MN];rfl
      ·rw[MN]
       have e:((λy:Str=>y.length)∘λc=>(⟨#[c]⟩:Str))=λ_=>1:=by funext c;rfl
       rw[e,List.map_const',List.sum_replicate_nat,MA];have e0:(Str.ofString "").length=0:=rfl;rw[e0];unfold col;rw[MA];omega
      ·rw[ar,MA,q0G];exact bq ⋯
      ·exact gC (s5.trans (ae hl)) hlr
      ·rw[ad,gy,q0J,ML]
       exact q0O (λz=>some (HO.lst z)) (fg _ _).symm
    ·rintro σ H5 ⟨s5,_,e5,y,rfl⟩
     ext;refine⟨?_,sm3.trans s5⟩;rw[e5];unfold gj;rw[hh]
   ·rintro σ H3 ⟨l3,x1,x2,x3,rfl,h4,sm3⟩
    refine h3 _ _ ?_;ext;exact⟨_,.inl (aW.of h4),λl hl=>q l _ (sm3.free hl) (by rw[ad,et]) (sm3.trans (ae hl))⟩
  ext;have hpl:p.length=r:=hp.1
  split
  ·rename_i h4
   refine⟨⟨_,aW.of hS⟩,?_⟩;refine fF (as:=p) (emb:=λx=>V.str (tx x)) (f:=λx=>some (V.str (tx x.reverse))) (λσ=>∃x,σ=[x]) ⟨_,rfl⟩ (λH' sm=>aW.of (sm _ _ hS)) ⋯ ?_ ?_
   ·rintro i x hx σ H' M1 M0 ⟨y,rfl⟩ sm k1 k0
    ext;have hxl:x.length=c:=hp.2 x (MD hx);refine⟨by rw[aA];omega,nofun,k1 _ _ _ ?_ sm ⟨_,rfl⟩⟩;rw[g9,gy]
   ·intro H' sm l hl
    rw[kL];have em:p.map (λx=>V.str (tx x.reverse))=aH (mirror p):=by unfold aH mirror;rw[MN];rfl
    rw[em];refine loop l (mirror p) _ _ _ _ ad (sm.trans (ae hl)) (hJ hp) ?_;unfold turned;rw[q07 ⋯]
  ·rename_i h4
   refine loop a p H _ _ _ hS (az.refl _) hp ?_;unfold turned;rw[q06 ⋯]
abbrev mi:Stmt:=ij 66
inductive o9(vs:List V)(H:Hp)(Q:VK)(_E:XK):Prop
 |mk (a b:Addr) (p q:bN) (r c r' c':Nat) (sd:Bool) (mo:Int) (_:vs=[.ref a,.ref b,.bl sd,.int mo]) (_:H a=some (.lst (aH p))) (_:H b=some (.lst (aH q))) (_:fV p r c) (_:fV q r' c') (_:mo<=6) (_:(∀pc,(∀v:RV,iH (if sd then 1 else 2) v [p,q]=some pc)->c8 H pc Q)) (_:∀H',az H H'->Q .non H')
theorem xy:aw ["_law_one","_law_other","_law_side","_law_most"] ["_law_one","_law_other","_law_side","_law_most"] (aj mi):=by walk_at "c"
theorem xb{f:Addr}(F:cF K "_law_joined" "_law_joined" mi f fd)(nb:NB mg):↑aS 1 f fd ["_law_one","_law_other","_law_side","_law_most"] o9:=by
 have sc:=xy;walk_at "f"
 ·obtain⟨a,b,p,q,r,c,r',c',sd,mo,rfl,G,D,k,j,hmo,a0,no⟩:=h
  have hp:=k.rc;have hq:=j.rc;have:=k.r6;have:=k.c6;have:=j.r6;have:=j.c6;have e1:=bT hp k.r0;have e2:=bT hq j.r0;refine⟨_,(af (bC (PW.pt (l7 (gO (al 2) λ_=>rfl) (l7 (aK fq (av bi rfl nb.len aV (aa (al 0) ac)) (av bi rfl nb.len aV (aa (al 1) ac)) (aN _)) (nE (aK (bc.m0 pi) (au (bc.m0 bF) (av bb rfl nb.len aV (aa (aE bg (al 0) ah (λ_ _=>rfl)) ac)) (av bb rfl nb.len aV (aa (aE bg (al 1) ah (λ_ _=>rfl)) ac))) (al 3) (aN _))))))
   (ai (aF (cH ["_law_left","_law_right"] [] rfl (bE.of (by kernel_rfl)) (by kernel_rfl) (D2 rfl nb.zip (aa (al 0) (aa (al 1) ac)))
    (λ_ _ _ _=>(vA (K:=K) (n:=2) rfl rfl (aM (aB (i:=0) (by show(["_law_left","_law_right"]:List Str).Nodup;decide +kernel) rfl (Or.inl rfl)) (aM (aB (i:=1) (by show(["_law_left","_law_right"]:List Str).Nodup;decide +kernel) rfl (Or.inl rfl)) cY)))) (λ_ _ _ _=>ce) (λ_ _ _ _=>(au je (al 0) (al 1))))))
   aL)
   (af (bC (PW.pt (l7 (gU (gO (al 2) λ_=>rfl)) (l7 (aK fq (av bb rfl nb.len aV (aa (aE bg (al 0) ah (λ_ _=>rfl)) ac)) (av bb rfl nb.len aV (aa (aE bg (al 1) ah (λ_ _=>rfl)) ac)) (aN _)) (nE (aK (bc.m0 pi) (au (bc.m0 bF) (av bi rfl nb.len aV (aa (al 0) ac)) (av bi rfl nb.len aV (aa (al 1) ac))) (al 3) (aN _))))))
   (ai (aF (au yz (eG cV rfl nb.list jm (aa (al 0) ac)) (eG cV rfl nb.list jm (aa (al 1) ac)))))
   aL)
   (ai (aF iu)))),?_⟩
  obtain⟨a1,Y⟩:=fR hp k.r0;obtain⟨S,u⟩:=fR hq j.r0;have m:p.length=r:=hp.1;have J:q.length=r':=hq.1;have h0:gZ (aH p) 0=some (V.str (tx p[0])):=(show gZ _ ((0:Nat):Int)=_ from aU (bp a1));have Z:gZ (aH q) 0=some (V.str (tx q[0])):=(show gZ _ ((0:Nat):Int)=_ from aU (bp S));refine am λN1 h1=>?_;have wj:N1 [some (V.ref a),some (V.ref b),some (V.bl sd),some (V.int mo)] H:=by
   refine h1 _ _ ?_;clear h1;refine am λN1 h1=>?_;have wj:N1 [some (V.ref a),some (V.ref b),some (V.bl sd),some (V.int mo)] H:=by
    refine h1 _ _ ?_;ext;exact no H (az.refl _)
   clear h1;ext;cases sd with
   |true=>rw[q06 nofun];exact wj
   |false=>
    rw[q07 rfl];refine⟨_,aW.of G,_,h0,_,rfl,by rw[aA];exact ak ⋯,_,aW.of D,_,Z,_,rfl,by rw[aA];exact ak ⋯,?_⟩;rw[aA,aA,Y,u];refine b9 (λt1=>?_) (λ_=>wj);refine⟨_,aW.of G,_,aW.of D,?_⟩;rw[ar,ar,m,J];refine b9 (λt2=>?_) (λ_=>wj);refine⟨_,.inl (aW.of G),λl U=>⟨_,.inl (aW.of (ae U _ _ D)),λl1 R=>⟨_,ae R _ _ ad,_,ad,?_,λl2 O=>?_⟩⟩⟩
    ·rw[ar,ar];exact ak ⋯
    have s3:=(ae (o:=.lst (aH p)) U).trans (ae (o:=.lst (aH q)) R);refine a0 (p++q) (λv=>?_) l2 _ (ia s3 O) ?_ (s3.trans (ae O))
    ·show(if(p.headD []).length=(q.headD []).length/\p.length+q.length<=6 then some (p++q) else none)=some (p++q)
     rw[e1,e2,q07 ⋯]
    ·rw[ad];unfold aH;rw[ML]
  clear h1;ext;cases sd with
  |false=>rw[q06 nofun];exact wj
  |true=>
   rw[q07 rfl];refine⟨_,aW.of G,_,aW.of D,?_⟩;rw[ar,ar,m,J];refine b9 (λt1=>?_) (λ_=>wj);refine⟨_,aW.of G,_,h0,_,rfl,by rw[aA];exact ak ⋯,_,aW.of D,_,Z,_,rfl,by rw[aA];exact ak ⋯,?_⟩;rw[aA,aA,Y,u];refine b9 (λt2=>?_) (λ_=>wj);refine⟨_,aW.of G,_,aW.of D,?_⟩;have L:q.length=r:=by omega
   have M:(put2 p q).length=r:=by unfold put2;rw[MA,q0K,m,L,Nat.min_self]
   refine xZ (xs:=aH p) (ys:=aH q) (n:=r) (by rw[ar,ar,m,L,Nat.min_self]) (λi g σ I=>az H I/\g=aH ((put2 p q).take i)/\i<=r/\∃y z,σ=[y,z]) ⟨λ_ _ e=>e,rfl,MX _,_,_,rfl⟩ ?_ ?_ ?_ ?_ ?_
   ·rintro i g σ I ⟨_,rfl,hi,_⟩
    rw[ar,Nb];exact bq ⋯
   ·rintro i g σ I ⟨_,_,h,_⟩
    exact h
   ·rintro i g σ I ⟨B,_⟩
    exact⟨aW.of (B _ _ G),aW.of (B _ _ D)⟩
   ·rintro i x y g σ I T hx hy ⟨B,rfl,_,y1,z1,rfl⟩ hT
    have hi:i<p.length:=by have:=(My.mp hx).1;rwa [ar]at this
    have C:i<q.length:=by omega
    rw[bp hi]at hx;rw[bp C]at hy;cases hx;cases hy;have hrow:=hp.2 _ (MH hi);have yd2:=hq.2 _ (MH C);ext;refine⟨_,aZ.of ad,rfl,_,_,rfl,_,_,rfl,rfl,?_⟩;have e:(put2 p q)[i]?=some (p[i]++q[i]):=by
     unfold put2;simp[List.getElem?_zip_eq_some,hi,C];exact⟨_,_,⟨rfl,rfl⟩,rfl⟩
    have et:tx p[i]++tx q[i]=tx (p[i]++q[i]):=by
     show(⟨_++_⟩:Str)=⟨_⟩;simp[tx]
    refine⟨_,rfl,_,rfl,by rw[aA,aA];exact ak ⋯,B.trans (ae hT),?_,⋯⟩;rw[et,q0D,e];exact(fg _ _).symm
   ·rintro g σ I ⟨B,rfl,_⟩ l U
    refine a0 (put2 p q) (λv=>?_) l _ (B.free U) ?_ (B.trans (ae U))
    ·show(if p.length=q.length/\(p.headD []).length+(q.headD []).length<=6 then some (put2 p q) else none)=some (put2 p q)
     rw[e1,e2,q07 ⋯]
    ·rw[ad,<- M,Na]
structure qO(r' r:Nat×RV):Prop where
 k:r'.1=r.1
 sg:r.1=0->r'.2.sg=r.2.sg
 o1:r.1≠0->r'.2.o1=r.2.o1
 o2:r.1=1\/r.1=2->r'.2.o2=r.2.o2
 t:r.1=3->r'.2.t=r.2.t
theorem qO.rfl'(r:Nat×RV):qO r r:=⟨rfl,λ_=>rfl,λ_=>rfl,λ_=>rfl,λ_=>rfl⟩
def m9(r:Nat×RV):List V:=match r.1 with
 |0=>[.int 0,.str (tx r.2.sg),.str ""]
 |1=>[.int 1,.str (tx r.2.o1),.str (tx r.2.o2)]
 |2=>[.int 2,.str (tx r.2.o1),.str (tx r.2.o2)]
 |_=>[.int 3,.str (tx r.2.o1),.int r.2.t]
theorem uo(r:Nat×RV):fW (i5 r) (some 2) none=m9 r:=by
 obtain⟨k,v⟩:=r
 match k with
 |0=>rfl
 |1=>rfl
 |2=>rfl
 |k+3=>rfl
theorem q9(r:Nat×RV):(m9 r).all eM=true:=by
 obtain⟨k,v⟩:=r
 match k with
 |0=>rfl
 |1=>rfl
 |2=>rfl
 |k+3=>rfl
theorem xg(r:Nat×RV):¬ (HT.sIx (i5 r).length 0 (some 2)=0/\HT.sIx (i5 r).length (i5 r).length none=(i5 r).length):=by
 obtain⟨k,v⟩:=r
 match k with
 |0=>exact λh=>by cases h.1
 |1=>exact λh=>by cases h.1
 |2=>exact λh=>by cases h.1
 |k+3=>exact λh=>by cases h.1
theorem kJ(h:l9 (.str a) (.str b)=true):a=b:=by
 have c:(a==b)=true:=h;exact eq_of_beq c
theorem AS{a b:Int}(h:l9 (.int a) (.int b)=true):a=b:=by
 have c:(a==b)=true:=h;exact eq_of_beq c
theorem gQ{x y z x' y' z':V}(h:jV [x,y,z] [x',y',z']=true):l9 x x'=true/\l9 y y'=true/\l9 z z'=true:=by
 have a:(([0,1,2]:List Nat).all (λj=>match([x,y,z]:List V)[j]?,([x',y',z']:List V)[j]? with | some x,some y=>l9 x y | _,_=>true)&&true)=true:=h
 simpa using a
theorem xP(r:Nat×RV)(h4:r.1<4):∃y z,m9 r=[.int (r.1:Int),y,z]:=by
 obtain⟨k,v⟩:=r;rcases kP h4 with h | h | h | h<;>(simp only at h;subst h;exact⟨_,_,rfl⟩)
theorem Do{r' r:Nat×RV}(h4':r'.1<4)(h4:r.1<4)(he:jV (m9 r') (m9 r)=true):qO r' r:=by
 have c:r'.1=r.1:=by
  obtain⟨y,z,e⟩:=xP r h4;obtain⟨y',z',g⟩:=xP r' h4';rw[e,g]at he;have:=AS (gQ he).1;omega
 obtain⟨b,a⟩:=r';obtain⟨k,v⟩:=r;have e:b=k:=c;subst e;rcases kP h4 with h | h | h | h<;>(simp only at h;subst h)
 ·have:=gQ (show jV [.int 0,.str (tx a.sg),.str ""] [.int 0,.str (tx v.sg),.str ""]=true from he)
  exact⟨rfl,λ_=>dW (kJ this.2.1),λh=>q0N rfl h,λh=>(by rcases h with h | h<;>cases h),λh=>(by cases h)⟩
 ·have:=gQ (show jV [.int 1,.str (tx a.o1),.str (tx a.o2)] [.int 1,.str (tx v.o1),.str (tx v.o2)]=true from he)
  exact⟨rfl,λh=>(by cases h),λ_=>dW (kJ this.2.1),λ_=>dW (kJ this.2.2),λh=>(by cases h)⟩
 ·have:=gQ (show jV [.int 2,.str (tx a.o1),.str (tx a.o2)] [.int 2,.str (tx v.o1),.str (tx v.o2)]=true from he)
  exact⟨rfl,λh=>(by cases h),λ_=>dW (kJ this.2.1),λ_=>dW (kJ this.2.2),λh=>(by cases h)⟩
 ·have:=gQ (show jV [.int 3,.str (tx a.o1),.int a.t] [.int 3,.str (tx v.o1),.int v.t]=true from he)
  exact⟨rfl,λh=>(by cases h),λ_=>dW (kJ this.2.1),λh=>(by rcases h with h | h<;>cases h),λ_=>AS this.2.2⟩
abbrev oQ:Stmt:=ij 67
inductive rT(vs:List V)(H:Hp)(Q:VK)(_E:XK):Prop
 |mk (l t:Addr) (b:Bool) (ts:NA) (rs:Yaa) (r:Nat×RV) (_:vs=[.ref l,.ref t,.bl b]) (_:iz H l ts rs) (_:(∀x∈rs,x.1<4)) (_:H t=some (.tup (i5 r))) (_:r.1<4) (_:rs.length<24) (_:(∀(k:Nat) r' H',rs[k]?=some r'->qO r' r->az H H'->Q (.int (k:Int)) H')) (_:(∀H0,az H H0->Q (.int (rs.length:Int)) (ay H0 l (.lst (ts.map V.ref++[V.ref t])))))
theorem yc:aw ["_law_rules","_law_wanted","_law_again","_law_k","_law_rule_here"] ["_law_rules","_law_wanted","_law_again"] (aj oQ):=by walk_at "c"
theorem zJ{f:Addr}(F:cF K "_law_noted" "_law_noted" oQ f fd)(nb:NB mg):↑aS 1 f fd ["_law_rules","_law_wanted","_law_again"] rT:=by
 have sc:=yc;walk_at "f"
 ·obtain⟨l,t,b,U,G,r,rfl,a,M,ht,L,hl24,q1,q3⟩:=h
  have hu:=hr.units;refine⟨_,(af (bC (gO (al 2) λ_=>rfl)
   (ai (bP PassesOwn.never rfl (qa rfl nb.enumerate (aa (al 0) ac)) (fB (n:=2) rfl (aM (q02 3 sc.nd) (aM (q02 4 sc.nd) cY)))
   (ai (bC (aK (D3 hu) (cJ oF (al 4) (cW ah) dN) (cJ oF (al 1) (cW ah) dN) (aN _))
   (ai (aF (al 3)))
   aL))))
   aL)
   (af (bH (q03 (al 0) (aa (al 1) ac)))
   (ai (aF (au (bc.m0 cX) (av bi rfl nb.len aV (aa (al 0) ac)) ah))))),?_⟩
  refine am λN1 h1=>?_;have D:∀{p m:Option V} {c:Hp},az H c->N1 [some (V.ref l),some (V.ref t),some (V.bl b),p,m] c:=fun{p m c} g=>by
   refine h1 _ _ ?_;ext;have B:=g _ _ a.1;have y:(U.map V.ref).length=G.length:=by rw[MA];exact a.2.1
   refine⟨.inl ⟨rfl,_,aW.of B⟩,_,B,?_,_,aW.of ad,?_⟩
   ·rw[y];exact bq ⋯
   ·have:=q3 c g
    rw[MV,y];rw[show(((G.length+[V.ref t].length:Nat):Int)-1)=(G.length:Int) by simp];exact this
  ext;cases b with
  |false=>rw[q06 nofun];exact D (az.refl _)
  |true=>
   rw[q07 rfl];refine⟨_,aW.of a.1,?_⟩;refine kO (xs:=U.map V.ref) (λi σ c=>az H c/\∃p m,σ=[some (V.ref l),some (V.ref t),some (V.bl true),p,m]) ⟨λ_ _ e=>e,_,_,rfl⟩ ?_ ?_ ?_
   ·rintro i σ c _ ⟨g,_⟩
    exact aW.of (g _ _ a.1)
   ·rintro i x σ c T hx ⟨g,p,m,rfl⟩ hT
    rw[MC]at hx;obtain⟨q,v,rfl⟩:=M3.mp hx;obtain⟨j,k⟩:∃j,G[i]?=some j:=⟨_,Mx (by have:=(My.mp v).1;have:=a.2.1;omega)⟩;have J:=g _ _ (a.2.2 i q j v k);have I:=ae (o:=.tup [V.int (i:Int),V.ref q]) hT;have C:ay c T (.tup [V.int (i:Int),V.ref q]) T=some (.tup [V.int (i:Int),V.ref q]):=ad;generalize ay c T (.tup [V.int (i:Int),V.ref q])=H1 at I C ⊢;ext;have u:=g.trans I;refine⟨_,aZ.of C,rfl,_,_,rfl,_,_,rfl,rfl,q,rfl,_,aZ.of (I _ _ J),xg j,λc1 S=>?_⟩;rw[uo];have sC:=ae (o:=.tup (m9 j)) S;refine⟨_,aZ.of (sC _ _ (u _ _ ht)),xg r,λc2 R=>?_⟩;rw[uo];have Z:=ae (o:=.tup (m9 r)) R;refine⟨_,aZ.of (Z _ _ ad),_,aZ.of ad,q9 j,q9 r,?_⟩;have Y:=(u.trans sC).trans Z
    by_cases O:jV (m9 j) (m9 r)=true
    ·rw[q07 O]
     exact q1 i j _ k (Do (M _ (MD k)) L O) Y
    ·rw[q06 O];exact Y
   ·rintro σ c ⟨g,p,m,rfl⟩
    exact D g
structure SI where
 t:aQ
 nm:List Nat
 p:bN
 c:Int
structure FI where
 a:Addr
 v:V
 lp:Addr
 x:SI
def FI.at(z:FI)(H:Hp):Prop:=H z.a=some (.tup [z.v,.str (tx z.x.nm),.ref z.lp,.int z.x.c])/\cE H z.x.t.d z.v/\H z.lp=some (.lst (aH z.x.p))/\z.x.p≠[]
theorem FI.at.up{z:FI}(h:z.at H)(s:az H H'):z.at H':=⟨s _ _ h.1,h.2.1.up (dX.of s) _,s _ _ h.2.2.1,h.2.2.2⟩
def fM(l:Addr)(H H':Hp):Prop:=∀y u,y≠l->H y=some u->H' y=some u
theorem fM.of(s:az H H'):fM l H H':=λy u _ e=>s y u e
theorem fM.trans(a:fM l H H1)(b:fM l H1 H2):fM l H H2:=λy u n e=>b y u n (a y u n e)
theorem fM.put:fM l H (ay H l o):=λy u n e=>by rw[ao n];exact e
theorem fM.tups(s:fM l H H'){as:NA}(hl:H l=some (.lst (as.map V.ref))):dX H H':=λb xs h=>s b _ (λz=>by rw[z,hl]at h;cases h) h
theorem FI.at.keep{z:FI}{as:NA}(h:z.at H)(hl:H l=some (.lst (as.map V.ref)))(s:fM l H H'):z.at H':=
 ⟨s.tups hl _ _ h.1,h.2.1.up (s.tups hl) _,s _ _ (yJ hl h.2.2.1 h.2.2.2) h.2.2.1,h.2.2.2⟩
structure DI(rs:Yaa)(p:bN)(lim:Int)(x:SI):Prop where
 sd:∃r c,Sd rs x.t (x.nm,r,c,x.c) x.p
 nm:x.nm∈p
 le:x.c<=lim
theorem Sd.more(r:Nat×RV){t:aQ}{p:TR}{pc:bN}(h:Sd rs t p pc):Sd (rs++[r]) t p pc:=by
 have up:∀{n:Nat} {x:Nat×RV},rs[n]?=some x->(rs++[r])[n]?=some x:=fun{n x} e=>by rw[MU (My.mp e).1];exact e
 induction h with
 |cell e=>exact .cell (up e)
 |turn e _ ih=>exact .turn (up e) ih
 |beside e _ _ m ih1 ih2=>exact .beside (up e) ih1 ih2 m
 |above e _ _ m ih1 ih2=>exact .above (up e) ih1 ih2 m
inductive Nx(r:Nat×RV):List SI->bN->Prop
 |cell:r.1=0->Nx r [] [r.2.sg]
 |turn {x:SI}:r.1=3->x.nm=r.2.o1->Nx r [x] (turned x.p r.2.t.toNat)
 |pair {x y:SI} {pc:bN}:(r.1=1\/r.1=2)->x.nm=r.2.o1->y.nm=r.2.o2->iH r.1 r.2 [x.p,y.p]=some pc->Nx r [x,y] pc
theorem Nx.sd{rs:Yaa}(hg:∀r∈rs,fj r){n:Nat}{r r':Nat×RV}{ys:List SI}{pc:bN}(h:Nx r ys pc)(e:rs[n]?=some r')(as:qO r' r)(hy:∀y∈ys,∃a c,Sd rs y.t (y.nm,a,c,y.c) y.p) :
  ∃a c,Sd rs (iS (n:Int) (ys.map SI.t)) (r'.2.n,a,c,r'.2.c+(ys.map SI.c).sum) pc:=by
 obtain⟨o,b⟩:=r';obtain⟨k,v⟩:=r;have C:o=k:=as.k;subst C;cases h with
 |cell h=>
  have h:o=0:=h;subst h;have:=as.sg rfl;have h1:Sd rs (.n0 n) (b.n,1,1,b.c) [b.sg]:=.cell e;rw[show b.sg=v.sg from this]at h1;have g:b.c=b.c+(([]:List SI).map SI.c).sum:=by simp
  rw[g]at h1;exact⟨_,_,h1⟩
 | @turn x h l=>
  have h:o=3:=h;subst h;obtain⟨a,c,s⟩:=hy x (by simp);have B:b.o1=v.o1:=as.o1 (show(3:Nat)≠0 by decide);have w:b.t=v.t:=as.t rfl;have l:x.nm=b.o1:=by rw[B];exact l
  rw[l]at s;have h1:=Sd.turn e s;rw[w]at h1;have g:x.c=([x].map SI.c).sum:=by simp
  rw[g]at h1;exact⟨_,_,h1⟩
 | @pair x y _ h l j m=>
  obtain⟨a,c,s⟩:=hy x (by simp);obtain⟨G,D,q⟩:=hy y (by simp);have l:x.nm=b.o1:=by rw[show b.o1=v.o1 from as.o1 (by rcases h with h | h<;>(have h:o=_:=h;subst h;exact λz=>by cases z))];exact l
  have j:y.nm=b.o2:=by rw[show b.o2=v.o2 from as.o2 h];exact j
  rw[l]at s;rw[j]at q;rcases h with h | h
  ·have h:o=1:=h
   subst h;have u:iH 1 b [x.p,y.p]=some pc:=m;have g:a=G:=(pj (s.pic hg) (q.pic hg) u).1;subst g;have h1:=Sd.beside e s q u;have g:x.c+y.c=([x,y].map SI.c).sum:=by simp
   rw[g]at h1;exact⟨_,_,h1⟩
  ·have h:o=2:=h
   subst h;have u:iH 2 b [x.p,y.p]=some pc:=m;have g:c=D:=(rp (s.pic hg) (q.pic hg) u).1;subst g;have h1:=Sd.above e s q u;have g:x.c+y.c=([x,y].map SI.c).sum:=by simp
   rw[g]at h1;exact⟨_,_,h1⟩
theorem Nx.ne{pc:bN}(h:Nx r ys pc):ys.length<=2:=by cases h<;>simp
structure GS(H:Hp)(p:bN)(sg:Nw)(lim:Int)(lr ls:Addr)(ts:NA)(rs:Yaa)(zs:List FI):Prop where
 rows:iz H lr ts rs
 ro:∀r∈rs,r8 p sg r
 st:H ls=some (.lst (zs.map λz=>V.ref z.a))
 at_:∀z∈zs,z.at H
 good:∀z∈zs,DI rs p lim z.x
 ne:lr≠ls
theorem GS.up{lim:Int}{lr ls:Addr}(g:GS H p sg lim lr ls ts rs zs)(s:az H H'):GS H' p sg lim lr ls ts rs zs:=
 ⟨g.rows.up s,g.ro,s _ _ g.st,λz hz=>(g.at_ z hz).up s,g.good,g.ne⟩
theorem GS.st'{lim:Int}{lr ls:Addr}(g:GS H p sg lim lr ls ts rs zs):H ls=some (.lst ((zs.map FI.a).map V.ref)):=by rw[MN];exact g.st
theorem GS.row{lim:Int}{lr ls:Addr}(g:GS H p sg lim lr ls ts rs zs){t:Addr}{r:Nat×RV}(ht:H t=some (.tup (i5 r)))(hr:r8 p sg r):GS (ay H lr (.lst (ts.map V.ref++[V.ref t]))) p sg lim lr ls (ts++[t]) (rs++[r]) zs:=
 ⟨g.rows.app ht,λx hx=>by rcases MM.mp hx with h | h;exact g.ro x h;rw[MB.mp h];exact hr,by rw[ao g.ne.symm];exact g.st,λz hz=>(g.at_ z hz).keep g.rows.1 fM.put,λz hz=>⟨let ⟨a,c,s⟩:=(g.good z hz).sd;⟨a,c,s.more r⟩,(g.good z hz).nm,(g.good z hz).le⟩,g.ne⟩
theorem GS.item{lim:Int}{lr ls:Addr}(g:GS H p sg lim lr ls ts rs zs){z:FI}(hz:z.at H)(hg:DI rs p lim z.x):GS (ay H ls (.lst (zs.map (λz=>V.ref z.a)++[V.ref z.a]))) p sg lim lr ls ts rs (zs++[z]):=by
 have b:fM ls H (ay H ls (.lst (zs.map (λz=>V.ref z.a)++[V.ref z.a]))):=fM.put;refine⟨⟨b _ _ g.ne g.rows.1,g.rows.2.1,λi t r j e=>b.tups g.st' _ _ (g.rows.2.2 i t r j e)⟩,g.ro,by rw[ad,ML];rfl,λy c=>?_,λy c=>?_,g.ne⟩
 ·rcases MM.mp c with h | h
  ·exact(g.at_ y h).keep g.st' b
  ·rw[MB.mp h];exact hz.keep g.st' b
 ·rcases MM.mp c with h | h
  ·exact g.good y h
  ·rw[MB.mp h];exact hg
def Fp(lr ls:Addr)(H H':Hp):Prop:=∀y u,y≠lr->y≠ls->H y=some u->H' y=some u
abbrev vS:Stmt:=ij 68
inductive rF(vs:List V)(H:Hp)(Q:VK)(_E:XK):Prop
 |mk (lr ls tw la tm lq:Addr) (b:Bool) (ts:NA) (rs:Yaa) (zs ys:List FI) (r:Nat×RV) (pc:bN) (p:bN) (sg:Nw) (lim:Int) (_:vs=[.ref lr,.ref ls,.ref tw,.bl b,.ref la,.ref tm]) (_:GS H p sg lim lr ls ts rs zs) (_:H tw=some (.tup (i5 r))) (_:r8 p sg r) (_:rs.length<24) (_:zs.length<=100) (_:H la=some (.lst (ys.map λz=>V.ref z.a))) (_:la≠lr) (_:la≠ls) (_:(∀y∈ys,y∈zs)) (_:H tm=some (.tup [.ref lq,.int lim])) (_:H lq=some (.lst (aH pc))) (_:pc≠[]) (_:Nx r (ys.map FI.x) pc) (_:∀H' ts' rs' zs',GS H' p sg lim lr ls ts' rs' zs'->Fp lr ls H H'->rs'.length<=rs.length+1->zs'.length<=zs.length+1->(zs≠[]\/(rs=[]/\r.1=0/\r.2.c<=lim)->zs'≠[])->Q .non H')
theorem EF:aw ["_law_rules","_law_stock","_law_wanted","_law_again","_law_parts","_law_made","_law_k","_law_cost"] ["_law_rules","_law_stock","_law_wanted","_law_again","_law_parts","_law_made"] (aj vS):=by walk_at "c"
theorem AR(r:Nat×RV):gZ (i5 r) 0=some (.str (tx r.2.n))/\gZ (i5 r) 1=some (.int r.2.c):=by
 obtain⟨k,v⟩:=r
 match k with
 |0=>exact⟨rfl,rfl⟩
 |1=>exact⟨rfl,rfl⟩
 |2=>exact⟨rfl,rfl⟩
 |k+3=>exact⟨rfl,rfl⟩
theorem Nx.cell0{pc:bN}(h:Nx r ys pc)(h1:r.1=0):ys=[]:=by
 cases h with
 |cell _=>rfl
 |turn e=>rw[h1]at e;cases e
 |pair e=>rw[h1]at e;rcases e with e | e<;>cases e
theorem w6:∀{ys:List FI},(∀z∈ys,z.at H)->aP H (((ys.map FI.x).map SI.t).map aQ.d) (ys.map λz=>z.v)
 | [],_=>by unfold aP;rfl
 |z::ys,h=>by
  show aP H (z.x.t.d::_) (z.v::_);exact aP.cons (h z q0B).2.1 (w6 λy hy=>h y (MP _ hy))
theorem Fc{f:Addr}(F:cF K "_law_put" "_law_put" vS f fd)(nb:NB mg)(yan:mg "sum"=none)(zTd:↑dU 1 "_law_noted" ["_law_rules","_law_wanted","_law_again"] rT):↑aS 2 f fd ["_law_rules","_law_stock","_law_wanted","_law_again","_law_parts","_law_made"] rF:=by
 have sc:=EF;walk_at "f"
 ·obtain⟨lr,ls,tw,la,tm,lq,b,ts,rs,zs,j,r,pc,p,sg,a0,rfl,g,a2,a6,c6,hz100,c4,b2,nls,a1,c1,b0,a7,nx,q⟩:=h
  have hu:=hr.units;refine⟨_,(af (q01 6 sc.nd (aJ zTd (hr.mono nofun) rfl ba (aa (al 0) (aa (al 2) (aa (al 3) ac)))))
   (af (q01 7 sc.nd (au (bc.m0 bF) (aE aC (aE bg (al 0) (al 6) (λ_ _=>rfl)) ah (λ_ _=>rfl)) (av (nV rfl) rfl yan y6 (aa (cH ["_law_part"] [] rfl (bE.of (by kernel_rfl)) (by kernel_rfl) (cK (al 4))
    (λ_ _ _ _=>(aB (i:=0) (by show(["_law_part"]:List Str).Nodup;decide +kernel) rfl (Or.inl rfl))) (λ_ _ _ _=>ce) (λ_ _ _ _=>(aE (AH (K:=K) rfl) (al 0) ah (λ_ _=>rfl)))) ac))))
   (ai (bC (aK (bc.m0 pi) (al 7) (aE aC (al 5) ah (λ_ _=>rfl)) (aN _))
   (ai (bH (q03 (al 1) (aa (aG (aa (au cB (aG (aa (al 6) ac)) (eG sS rfl nb.tuple Ed (aa (cH ["_law_part"] [] rfl (bE.of (by kernel_rfl)) (by kernel_rfl) (cK (al 4))
    (λ_ _ _ _=>(aB (i:=0) (by show(["_law_part"]:List Str).Nodup;decide +kernel) rfl (Or.inl rfl))) (λ_ _ _ _=>ce) (λ_ _ _ _=>(aE (AH (K:=K) rfl) (al 0) ah (λ_ _=>rfl)))) ac))) (aa (aE aC (aE bg (al 0) (al 6) (λ_ _=>rfl)) ah (λ_ _=>rfl)) (aa (aE aC (al 5) ah (λ_ _=>rfl)) (aa (al 7) ac))))) ac))))
   aL)))),?_⟩
  refine am λN1 h1=>?_;have go:∀(k:Nat) (m:Nat×RV) (D:NA) (B:Yaa) (H1:Hp),GS H1 p sg a0 lr ls D B zs->B[k]?=some m->qO m r->B.length<=rs.length+1->fM lr H H1->(rs=[]->m=r)->N1 [some (V.ref lr),some (V.ref ls),some (V.ref tw),some (V.bl b),some (V.ref la),some (V.ref tm),some (V.int (k:Int)),none] H1:=by
   intro k m D B H1 G S Z R hE a8;refine h1 _ _ ?_;clear h1;have C:=hE _ _ b2 c4;have M:=hE.tups g.rows.1 _ _ c1;have a9:=hE _ _ (yJ g.rows.1 b0 a7) b0;have b4:=nx.ne;rw[MA]at b4;obtain⟨tk,a3⟩:∃tk,D[k]?=some tk:=⟨_,Mx (by have:=(My.mp S).1;have:=G.rows.2.1;omega)⟩;have b1:gZ (D.map V.ref) (k:Int)=some (V.ref tk):=aU (by rw[MC,a3];rfl);have O:=G.rows.2.2 k tk m a3 S;symm;have U:∀y∈j,y.at H1:=λy hy=>G.at_ y (a1 y hy);refine⟨_,aW.of G.rows.1,_,b1,_,rfl,_,aZ.of O,_,(AR m).2,⟨_,aW.of C⟩,?_⟩;refine fF (as:=j) (emb:=λz=>V.ref z.a) (f:=λz=>some (V.int z.x.c)) (λσ=>∃x,σ=[x]) ⟨_,rfl⟩ (λH' s=>aW.of (s _ _ C)) ⋯ ?_ ?_
   ·rintro i z T σ H' M1 M0 ⟨y,rfl⟩ sm k1 k0
    ext;exact⟨_,aZ.of (sm _ _ (U z (MD T)).1),_,rfl,k1 _ _ _ rfl sm ⟨_,rfl⟩⟩
   intro H2 s2 l hl;rw[kL];refine⟨j.map λz=>z.x.c,by rw[MN];exact aW.of ad,_,rfl,h1 _ _ ?_⟩;clear h1;have s3:=s2.trans (ae (o:=.lst (j.map λz=>V.int z.x.c)) hl);generalize ay H2 l (.lst (j.map λz=>V.int z.x.c))=H3 at s3 ⊢;clear s2 hl H2;have g3:=G.up s3;have a4:(j.map λz=>z.x.c).sum=((j.map FI.x).map SI.c).sum:=by rw[MN];rfl
   have a5:=nx.sd (λr hr=>(G.ro r hr).good) S Z λy hy=>by
    obtain⟨z,T,rfl⟩:=Ng.mp hy;exact(G.good z (a1 z T)).sd
   rw[a4];generalize Y:m.2.c+((j.map FI.x).map SI.c).sum=cost at a5 ⊢;have hB:∀{H4},az H3 H4->Fp lr ls H H4:=λs4 y u n1 _ e=>s4 _ _ (s3 _ _ (hE y u n1 e));ext;refine⟨_,aZ.of (s3 _ _ M),_,rfl,_,rfl,?_⟩;refine b9 (λt1=>?_) (λt1=>?_)
   ·refine⟨.inl ⟨rfl,_,aW.of g3.st⟩,ak nofun,λp1 c2=>?_⟩
    have s4:=ae (o:=.tup [V.int (k:Int)]) c2;have e4:ay H3 p1 (.tup [V.int (k:Int)]) p1=some (.tup [V.int (k:Int)]):=ad;generalize ay H3 p1 (.tup [V.int (k:Int)])=H4 at s4 e4 ⊢;have I:=s3.trans s4;refine⟨⟨_,aW.of (I _ _ C)⟩,?_⟩;refine fF (as:=j) (emb:=λz=>V.ref z.a) (f:=λz=>some z.v) (λσ=>∃x,σ=[x]) ⟨_,rfl⟩ (λH' s=>aW.of (s _ _ (I _ _ C))) ⋯ ?_ ?_
    ·rintro i z T σ H' M1 M0 ⟨y,rfl⟩ sm k1 k0
     ext;exact⟨_,aZ.of (sm _ _ (I _ _ (U z (MD T)).1)),_,rfl,k1 _ _ _ rfl sm ⟨_,rfl⟩⟩
    intro H5 s5 l hl;rw[kL];refine⟨_,.inl ⟨aW.of ad,λl4 c5=>?_⟩⟩;have sB:=(ae (o:=.lst (j.map λz=>z.v)) hl).trans (ae (o:=.tup (j.map λz=>z.v)) c5);refine dh (sB _ _ (s5 _ _ e4)) ad (by simp) (by simp;omega) λtr H6 c0 s6=>?_;have L:=I.trans ((s5.trans sB).trans s6);have g6:=G.up L;refine⟨_,aW.of g6.rows.1,_,b1,_,rfl,_,aZ.of (L _ _ O),_,(AR m).1,_,aZ.of (L _ _ M),_,rfl,ak nofun,λnp c3=>?_⟩;have s7:=ae (o:=.tup [V.ref tr,V.str (tx m.2.n),V.ref lq,V.int cost]) c3;have e7:ay H6 np (.tup [V.ref tr,V.str (tx m.2.n),V.ref lq,V.int cost]) np=some (.tup [V.ref tr,V.str (tx m.2.n),V.ref lq,V.int cost]):=ad;generalize ay H6 np (.tup [V.ref tr,V.str (tx m.2.n),V.ref lq,V.int cost])=H7 at s7 e7 ⊢;have J:=L.trans s7;have g7:=G.up J;have b3:FI.at ⟨np,V.ref tr,lq,⟨iS (k:Int) ((j.map FI.x).map SI.t),m.2.n,pc,cost⟩⟩ H7:=by
     refine⟨e7,?_,J _ _ a9,a7⟩;refine aQ.of (vs:=j.map λz=>z.v) ?_ ?_
     ·show H7 tr=some (.tup (.int (iS (k:Int) ((j.map FI.x).map SI.t)).i::_))
      rw[wV];exact s7 _ _ c0
     ·show aP H7 ((iS (k:Int) ((j.map FI.x).map SI.t)).ps.map aQ.d) _
      rw[vg _ (by simp;omega)];exact w6 λz T=>((U z T).up J)
    have gd:DI B p a0 ⟨iS (k:Int) ((j.map FI.x).map SI.t),m.2.n,pc,cost⟩:=⟨a5,(G.ro _ (MD S)).n,t1⟩;refine⟨_,g7.st,by rw[MA];exact bq ⋯,?_⟩;exact q _ D B _ (g7.item b3 gd) (λy u n1 n2 e=>by rw[ao n2];exact J _ _ (hE y u n1 e)) R (by simp) (λ_=>by simp)
   ·refine q H3 D B zs g3 (hB (az.refl _)) R ⋯ λh=>?_
    rcases h with h | ⟨h0,h1,h2⟩
    ·exact h
    ·refine q0N ?_ t1
     have er:=a8 h0;subst er;rw[<- Y];rw[nx.cell0 h1]
     simpa using h2
  clear h1;ext;refine⟨lr,tw,b,ts,rs,r,rfl,g.rows,λx hx=>(g.ro x hx).good.k4,a2,a6.good.k4,c6,λk m H1 S Z s1=>?_,λH0 s0=>?_⟩
  ·exact go k m ts rs H1 (g.up s1) S Z ⋯ (.of s1) (λe=>by rw[e]at S;simp at S)
  ·exact go rs.length r _ _ _ ((g.up s0).row (s0 _ _ a2) a6) (by simp) (qO.rfl' r) (by simp) ((fM.of s0).trans fM.put) (λ_=>rfl)
abbrev qf:Stmt:=ij 69
inductive tM(vs:List V)(H:Hp)(Q:VK)(_E:XK):Prop
 |mk (lr ls td lb:Addr) (ts:NA) (rs:Yaa) (zs:List FI) (p:bN) (sg:Nw) (c dear side lim:Int) (_:vs=[.ref lr,.ref ls,.int c,.ref td]) (_:GS H p sg lim lr ls ts rs zs) (_:H td=some (.tup [.str (tx sg),.ref lb,.int dear,.int side,.int lim])) (_:H lb=some (.lst (aH p))) (_:p.length=4) (_:(∀r∈p,dP r=true)) (_:fm sg=true) (_:1<=dear) (_:dear<=9) (_:dear<=lim) (_:side<=6) (_:rs.length<24) (_:zs.length<=100) (_:∀H' ts' rs' zs',GS H' p sg lim lr ls ts' rs' zs'->Fp lr ls H H'->rs'.length<=rs.length+1->zs'.length<=zs.length+1->(zs≠[]\/rs=[]->zs'≠[])->Q .non H')
theorem CL:aw ["_law_rules","_law_stock","_law_cell_here","_law_drawn","_law_signs_here","_law_names_here","_law_dear","_law_side","_law_limit","_law_kind","_law_again","_law_name","_law_cost","_law_rest","_law_sign","_law_one","_law_made","_law_other","_law_way","_law_picture"] ["_law_rules","_law_stock","_law_cell_here","_law_drawn"] (aj qf):=by walk_at "c"
theorem B9{f:Addr}(F:cF K "_law_step" "_law_step" qf f fd)(nb:NB mg)(zec:↑dU 2 "_law_put" ["_law_rules","_law_stock","_law_wanted","_law_again","_law_parts","_law_made"] rF)(zKc:↑dU 1 "_law_turned" ["_law_picture","_law_t"] (oU K))(zLc:↑dU 1 "_law_joined" ["_law_one","_law_other","_law_side","_law_most"] o9):↑aS 3 f fd ["_law_rules","_law_stock","_law_cell_here","_law_drawn"] tM:=by
 have sc:=CL;walk_at "f"
 ·obtain⟨lr,ls,td,lb,ts,rs,U,p,sg,c,G,a2,m,rfl,g,f8,g2,hp4,c3,e9,hd1,hd9,hdl,g0,f1,a4,q⟩:=h
  have hu:=hr.units;refine⟨_,(af (yZ (al 3) (fB (n:=5) rfl (aM (q02 4 sc.nd) (aM (q02 5 sc.nd) (aM (q02 6 sc.nd) (aM (q02 7 sc.nd) (aM (q02 8 sc.nd) cY)))))))
   (af (q01 9 sc.nd (au (bc.m1 br) (al 2) ah))
   (af (q01 10 sc.nd (kK fq (au (bc.m1 br) (au (bc.m1 bR) (al 2) ah) ah) ah (aN _)))
   (af (q01 11 sc.nd (aE bg (al 5) (au (bc.m1 br) (au (bc.m1 bR) (al 2) ah) ah) (λ_ _=>rfl)))
   (af (q01 12 sc.nd (au (bc.m0 bF) ah (au (bc.m1 br) (au (bc.m1 bR) (al 2) ah) (al 6))))
   (af (q01 13 sc.nd (au (bc.m1 bR) (au (bc.m1 bR) (al 2) ah) (al 6)))
   (af (bC (PW.pt (iO (aK fq (al 9) ah (aN _)) (fH (aK fq (av bi rfl nb.len aV (aa (al 1) ac)) ah (aN _)))))
   (af (q01 14 sc.nd (aE oh (al 4) (au (bc.m1 br) (al 13) (av bb rfl nb.len aV (aa (al 4) ac))) (λ_ _=>rfl)))
   (af (bH (aJ zec (hr.mono nofun) rfl ba (aa (al 0) (aa (al 1) (aa (aG (aa (al 11) (aa (al 12) (bj (aa (al 14) (bh ac)))))) (aa (al 10) (aa (bK ac) (aa (aG (aa (bK (aa (al 14) ac)) (aa (al 8) ac))) ac))))))))
   (ai vL)))
   aL)
   (af (q01 15 sc.nd (aE bg (al 1) (au (bc.m1 br) (al 13) (av bi rfl nb.len aV (aa (al 1) ac))) (λ_ _=>rfl)))
   (af (q01 13 sc.nd (au (bc.m1 bR) (al 13) (av bi rfl nb.len aV (aa (al 1) ac))))
   (af (bC (aK fq (al 9) ah (aN _))
   (af (q01 16 sc.nd (aG (aa (aJ zKc (hr.mono nofun) rfl ba (aa (aE aC (al 15) ah (λ_ _=>rfl)) (aa (au (bc.m1 br) (al 13) ah) ac))) (aa (al 8) ac))))
   (af (bH (aJ zec (hr.mono nofun) rfl ba (aa (al 0) (aa (al 1) (aa (aG (aa (al 11) (aa (al 12) (bj (aa (aE aC (al 15) ah (λ_ _=>rfl)) (aa (au (bc.m1 br) (al 13) ah) ac)))))) (aa (al 10) (aa (bK (aa (al 15) ac)) (aa (al 16) ac))))))))
   (ai vL)))
   aL)
   (af (q01 17 sc.nd (aE bg (al 1) (au (bc.m1 br) (al 13) (av bi rfl nb.len aV (aa (al 1) ac))) (λ_ _=>rfl)))
   (ai (bP PassesOwn.never rfl (yI (aG (aa (al 9) (aa (au (bc.m0 cX) ah (al 9)) ac)))) (q02 18 sc.nd)
   (af (q01 19 sc.nd (aJ zLc (hr.mono nofun) rfl ba (aa (aE aC (al 15) ah (λ_ _=>rfl)) (aa (aE aC (al 17) ah (λ_ _=>rfl)) (aa (kK fq (al 18) ah (aN _)) (aa (al 7) ac))))))
   (ai (bC (aK v4 (al 19) iu (aN _))
   (af (bH (aJ zec (hr.mono nofun) rfl ba (aa (al 0) (aa (al 1) (aa (aG (aa (al 11) (aa (al 12) (aa (al 18) (aa (aE aC (al 15) ah (λ_ _=>rfl)) (aa (aE aC (al 17) ah (λ_ _=>rfl)) ac)))))) (aa (al 10) (aa (bK (aa (al 15) (aa (al 17) ac))) (aa (aG (aa (al 19) (aa (al 8) ac))) ac))))))))
   (ai vL))
   aL)))))))))))))))),?_⟩
  symm;refine⟨_,aZ.of f8,rfl,_,_,rfl,_,_,rfl,_,_,rfl,_,_,rfl,_,_,rfl,rfl,h1 _ _ ?_⟩;grind;refine h1 _ _ ?_;grind;refine h1 _ _ ?_;grind;have hsl:=mG e9;have Gv:∀x:Int,∃z∈p,gZ (aH p) (x%4)=some (V.str (tx z)):=λx=>by
   obtain⟨j,hj⟩:∃j:Nat,x%4=(j:Int):=⟨_,(No (Nm _ ⋯)).symm⟩;have:x%4<4:=Nn _ ⋯;exact⟨p[j]'⋯,MH _,by rw[hj];exact aU (bp ⋯)⟩
  have d3:∀x:Int,∃c∈sg,gZ (tx sg).cps.toList (x%(sg.length:Int))=some c:=λx=>by
   rw[g9];exact zx (Nm _ ⋯) (Nn _ ⋯)
  have hsz:(tx sg).length<=sizeLine:=by rw[aA];exact ak ⋯
  obtain⟨nm,a6,p1⟩:=Gv (c/8);refine⟨_,aW.of g2,_,p1,h1 _ _ ?_⟩;grind;have c0:0<=c/32%G:=Nm _ ⋯;have c9:c/32%G<G:=Nn _ ⋯;refine⟨⋯,h1 _ _ ?_⟩;clear h1;obtain⟨C,g4⟩:∃C,1+c/32%G=C:=⟨_,rfl⟩;rw[g4];symm;refine⟨⋯,⋯,h1 _ _ ?_⟩;clear h1;generalize c/32/G=re;have gd:∀(k:Nat) (l I:Nw) (J:Nat) (Y:Int),k<4->l∈p->I∈p->J∈sg->0<=Y->Y<=7->r8 p sg (k,⟨nm,C,l,I,[J],Y⟩):=λk l I J Y hk h1 h2 h3 t0 t7=>by
   have g:RV.good ⟨nm,C,l,I,[J],Y⟩:=⟨c3 _ a6,by show 1<=C;omega,by show C<=9;omega,c3 _ h1,c3 _ h2,FT e9 h3,t0,t7⟩;exact⟨⟨hk,g,g.small⟩,a6,h1,h2,J,h3,rfl⟩
  generalize hag:decide (c/4%2=0)=ag;have d4:∀{T:List FI} {r:Nat×RV},r.2.c=C->(U≠[]\/(rs=[]/\r.1=0/\r.2.c<=m)->T≠[])->r.1=0\/U≠[]->(U≠[]\/rs=[]->T≠[]):=fun{T r} hc h h0 h1=>by
   refine h ?_;rcases h1 with h1 | h1
   ·exact .inl h1
   ·rcases h0 with h0 | h0
    ·exact .inr ⟨h1,h0,⋯⟩
    ·exact .inl h0
  refine am λN1 h1=>?_;refine y_ λtb ub et eu=>?_;ext;have b3:∀{D:iJ},D.rt=Q->tb D [some (V.ref lr),some (V.ref ls),some (V.int c),some (V.ref td),some (V.str (tx sg)),some (V.ref lb),some (V.int G),some (V.int a2),some (V.int m),some (V.int (c%4)),some (V.bl ag),some (V.str (tx nm)),some (V.int C),some (V.int re),none,none,none,none,none,none] H:=fun{D} hD=>by
   rw[et];ext;rw[aA];obtain⟨J,b0,pc⟩:=d3 re;have f0:sg.length<=sizeLine:=ak ⋯;refine⟨f0,⋯,f0,J,pc,ak nofun,λS Z=>⟨MX _,λR B=>⟨ak nofun,λM a7=>⟨ak nofun,λtm L=>?_⟩⟩⟩⟩;have r0:=gd 0 nm nm J 0 nofun a6 a6 b0 nofun nofun;generalize hr:(⟨nm,C,nm,nm,[J],0⟩:RV)=rv at r0;have e1:ay H S (.tup [V.str (tx nm),V.int C,V.int 0,V.str ⟨#[J]⟩,V.str (Str.ofString "")]) S=some (.tup (i5 (0,rv))):=by rw[ad,<- hr];rfl
   have s1:=ae (o:=.tup [V.str (tx nm),V.int C,V.int 0,V.str ⟨#[J]⟩,V.str (Str.ofString "")]) Z;generalize ay H S (.tup [V.str (tx nm),V.int C,V.int 0,V.str ⟨#[J]⟩,V.str (Str.ofString "")])=H1 at s1 e1 B a7 L ⊢;have s2:=ae (o:=.lst []) B;have e2:ay H1 R (.lst []) R=some (.lst []):=ad;generalize ay H1 R (.lst [])=H2 at s2 e2 a7 L ⊢;have s3:=ae (o:=.lst [V.str ⟨#[J]⟩]) a7;have e3:ay H2 M (.lst [V.str ⟨#[J]⟩]) M=some (.lst (aH [rv.sg])):=by rw[ad,<- hr];rfl
   generalize ay H2 M (.lst [V.str ⟨#[J]⟩])=H3 at s3 e3 L ⊢;have s4:=ae (o:=.tup [V.ref M,V.int m]) L;have e4:ay H3 tm (.tup [V.ref M,V.int m]) tm=some (.tup [V.ref M,V.int m]):=ad;generalize ay H3 tm (.tup [V.ref M,V.int m])=H4 at s4 e4 ⊢;have d6:=s3.trans s4;have d7:=s2.trans d6;have e0:=s1.trans d7;have nl:∀{x u},H x=some u->R≠x:=λe z=>by rw[<- z,ia s1 B]at e;cases e
   refine⟨lr,ls,S,R,tm,M,ag,ts,rs,U,[],(0,rv),[rv.sg],p,sg,m,rfl,g.up e0,d7 _ _ e1,r0,f1,a4,d6 _ _ e2,nl g.rows.1,nl g.st,λy hy=>(nomatch hy),e4,s4 _ _ e3,by simp,Nx.cell rfl,λH' b4 c2 T g' sB l1 l2 c4=>?_⟩;rw[hD];exact q H' b4 c2 T g' (λy u n1 n2 e=>sB y u n1 n2 (e0 _ _ e)) l1 l2 (d4 (by rw[<- hr]) c4 (.inl rfl))
  refine b9 (λ_=>b3 rfl) (λk0=>⟨_,aW.of g.st,?_⟩);rw[MA];refine b9 (λ_=>b3 rfl) (λz0=>?_);clear b3;rw[eu];clear et eu tb ub;have e6:1<=U.length:=by omega
  have e7:U≠[]:=λe=>by rw[e]at e6;simp at e6
  have d5:∀x:Int,∃z∈U,gZ (U.map λz=>V.ref z.a) (x%(U.length:Int))=some (V.ref z.a):=λx=>by
   obtain⟨v,hv,e⟩:=zx (xs:=U.map λz=>V.ref z.a) (Nm x (show(U.length:Int)≠0 by omega)) (by rw[MA];exact Nn _ ⋯);obtain⟨z,hz,rfl⟩:=Ng.mp hv;exact⟨z,hz,e⟩
  ext;refine h1 _ _ ?_;grind;obtain⟨l,a0,f7⟩:=d5 re;refine⟨_,aW.of g.st,by rw[MA];omega,_,aW.of g.st,_,by rw[MA];exact f7,h1 _ _ ?_⟩;grind;refine⟨_,aW.of g.st,by rw[MA];omega,by rw[MA];omega,h1 _ _ ?_⟩;clear h1;rw[MA];generalize re/(U.length:Int)=re2;have a1:=g.at_ l a0;have b1:=g.good l a0;obtain⟨zr,zc,f3⟩:=b1.sd;have zp:=f3.pic λr hr=>(g.ro r hr).good;have zr6:zr<=6:=zp.r6;have zc6:zc<=6:=zp.c6;obtain⟨J,b0,_⟩:=d3 0;have f2:∀{H5:Hp} {S R tm M:Addr} {ys:List FI} {r:Nat×RV} {pc:bN},az H H5->H5 S=some (.tup (i5 r))->r8 p sg r->r.2.c=C->H5 R=some (.lst (ys.map λz=>V.ref z.a))->H R=none->(∀y∈ys,y∈U)->H5 tm=some (.tup [.ref M,.int m])->H5 M=some (.lst (aH pc))->(∃a b,fV pc a b)->Nx r (ys.map FI.x) pc->rF [.ref lr,.ref ls,.ref S,.bl ag,.ref R,.ref tm] H5 (λ_ H1=>Q .non H1) E0:=fun{H5 S R tm M ys r pc} s5 e1 hro hc0 e2 B hys e3 e4 a5 nx=>by
   have nl:∀{x u},H x=some u->R≠x:=λe z=>by rw[<- z,B]at e;cases e
   obtain⟨a,b,p6⟩:=a5;refine⟨lr,ls,S,R,tm,M,ag,ts,rs,U,ys,r,pc,p,sg,m,rfl,g.up s5,e1,hro,f1,a4,e2,nl g.rows.1,nl g.st,hys,e3,e4,λe=>?_,nx,λH' b4 c2 T g' sB l1 l2 c4=>?_⟩
   ·have h1:=p6.rc.1
    have h2:=p6.r0;rw[e]at h1;rw[<- h1]at h2;cases h2
   ·exact q H' b4 c2 T g' (λy u n1 n2 e=>sB y u n1 n2 (s5 _ _ e)) l1 l2 (d4 hc0 c4 (.inr e7))
  refine am λN1 h1=>?_;refine y_ λtb ub et eu=>?_;ext;refine b9 (λk3=>?_) (λk3=>?_)
  ·rw[et]
   clear et eu tb ub h1;symm;obtain⟨Y,e8,f9⟩:∃Y:Nat,re2%8=(Y:Int)/\Y<8:=⟨(re2%8).toNat,⋯,⋯⟩;rw[e8];refine⟨_,aZ.of a1.1,_,rfl,l.lp,l.x.p,zr,zc,Y,rfl,a1.2.2.1,zp.rc,zp.r0,zp.c0,⋯,⋯,f9,λM H1 a7 c5 s1=>⟨ak nofun,λtm L=>h1 _ _ ?_⟩⟩;clear h1;have s2:=ae (o:=.tup [V.ref M,V.int m]) L;have e2:ay H1 tm (.tup [V.ref M,V.int m]) tm=some (.tup [V.ref M,V.int m]):=ad;generalize ay H1 tm (.tup [V.ref M,V.int m])=H2 at s2 e2 ⊢;have O:=s1.trans s2;ext;rw[e8];refine⟨_,aZ.of (O _ _ a1.1),_,rfl,ak nofun,λS Z=>⟨ak nofun,λR B=>?_⟩⟩;have a8:H R=none:=ia (O.trans (ae Z)) B;have e3:ay H2 S (.tup [V.str (tx nm),V.int C,V.int 3,V.str (tx l.x.nm),V.int (Y:Int)]) S=some (.tup (i5 (3,⟨nm,C,l.x.nm,nm,[J],(Y:Int)⟩))):=ad;have s3:=ae (o:=.tup [V.str (tx nm),V.int C,V.int 3,V.str (tx l.x.nm),V.int (Y:Int)]) Z;generalize ay H2 S (.tup [V.str (tx nm),V.int C,V.int 3,V.str (tx l.x.nm),V.int (Y:Int)])=H3 at s3 e3 B ⊢;have s4:=ae (o:=.lst [V.ref l.a]) B;exact f2 ((O.trans s3).trans s4) (s4 _ _ e3) (gd 3 _ _ J _ nofun b1.nm a6 b0 ⋯ ⋯) rfl (ys:=[l]) ad a8 (λy hy=>by rw[MB.mp hy];exact a0) (s4 _ _ (s3 _ _ e2)) (s4 _ _ (s3 _ _ (s2 _ _ c5))) (tN zp Y) (Nx.turn (x:=l.x) rfl rfl)
  ·rw[eu]
   clear et eu tb ub;ext;refine h1 _ _ ?_;grind;obtain⟨I,a3,f6⟩:=d5 re2;refine⟨_,aW.of g.st,by rw[MA];omega,_,aW.of g.st,_,by rw[MA];exact f6,h1 _ _ ?_⟩;clear h1;have b2:=g.at_ I a3;have d2:=g.good I a3;obtain⟨f4,f5,d0⟩:=d2.sd;have d1:=d0.pic λr hr=>(g.ro r hr).good;ext;refine⟨ak nofun,λpt g1=>?_⟩;have s1:=ae (o:=.tup [V.int (c%4),V.int (3-c%4)]) g1;have e1:ay H pt (.tup [V.int (c%4),V.int (3-c%4)]) pt=some (.tup [V.int (c%4),V.int (3-c%4)]):=ad;generalize ay H pt (.tup [V.int (c%4),V.int (3-c%4)])=H1 at s1 e1 ⊢;refine⟨⟨_,aZ.of e1⟩,?_⟩;refine w9 (xs:=[V.int (c%4),V.int (3-c%4)]) (λi σ H'=>az H1 H'/\∃y2 y3,σ=[some (V.ref lr),some (V.ref ls),some (V.int c),some (V.ref td),some (V.str (tx sg)),some (V.ref lb),some (V.int G),some (V.int a2),some (V.int m),some (V.int (c%4)),some (V.bl ag),some (V.str (tx nm)),some (V.int C),some (V.int re2),none,some (V.ref l.a),none,some (V.ref I.a),y2,y3]) ⟨az.refl _,_,_,rfl⟩ (λi σ H' _ h=>aZ.of (h.1 _ _ e1)) ?_ ?_
   ·rintro i x σ H2 hx ⟨s2,y2,y3,rfl⟩
    obtain⟨k,hk,rfl⟩:∃k:Nat,(k=1\/k=2)/\x=V.int (k:Int):=by
     have g5:c%4=1\/c%4=2:=by omega
     have hm:=MD hx;rcases g5 with e | e<;>rw[e]at hm<;>(rcases MO.mp hm with rfl | hm)
     ·exact⟨1,.inl rfl,rfl⟩
     ·rw[MB.mp hm];exact⟨2,.inr rfl,rfl⟩
     ·exact⟨2,.inr rfl,rfl⟩
     ·rw[MB.mp hm];exact⟨1,.inl rfl,rfl⟩
    have O:=s1.trans s2;have g3:(if decide ((k:Int)=1)=true then 1 else 2)=k:=by rcases hk with rfl | rfl<;>rfl
    ac_nf;refine⟨_,aZ.of (O _ _ a1.1),_,rfl,_,aZ.of (O _ _ b2.1),_,rfl,l.lp,I.lp,l.x.p,I.x.p,zr,zc,f4,f5,decide ((k:Int)=1),a2,rfl,O _ _ a1.2.2.1,O _ _ b2.2.2.1,zp,d1,g0,λpc a5 M H3 a7 c5 s3=>h2 _ _ ?_,λH3 s3=>h2 _ _ ?_⟩
    ·clear h2
     rw[g3]at a5;ext;rw[q07 (by simp)];have a9:=O.trans s3;refine⟨_,aZ.of (a9 _ _ a1.1),_,rfl,_,aZ.of (a9 _ _ b2.1),_,rfl,ak nofun,λS Z=>⟨ak nofun,λR B=>⟨ak nofun,λtm L=>?_⟩⟩⟩;have a8:H R=none:=ia (a9.trans (ae Z)) B;have r0:r8 p sg (k,⟨nm,C,l.x.nm,I.x.nm,[J],0⟩):=gd k _ _ J _ ⋯ b1.nm d2.nm b0 nofun nofun;have e4:ay H3 S (.tup [V.str (tx nm),V.int C,V.int (k:Int),V.str (tx l.x.nm),V.str (tx I.x.nm)]) S=some (.tup (i5 (k,⟨nm,C,l.x.nm,I.x.nm,[J],0⟩))):=by rw[ad];rcases hk with rfl | rfl<;>rfl
     have s4:=ae (o:=.tup [V.str (tx nm),V.int C,V.int (k:Int),V.str (tx l.x.nm),V.str (tx I.x.nm)]) Z;generalize ay H3 S (.tup [V.str (tx nm),V.int C,V.int (k:Int),V.str (tx l.x.nm),V.str (tx I.x.nm)])=H4 at s4 e4 B L ⊢;have s5:=ae (o:=.lst [V.ref l.a,V.ref I.a]) B;have e5:ay H4 R (.lst [V.ref l.a,V.ref I.a]) R=some (.lst [V.ref l.a,V.ref I.a]):=ad;generalize ay H4 R (.lst [V.ref l.a,V.ref I.a])=H5 at s5 e5 L ⊢;have s6:=ae (o:=.tup [V.ref M,V.int m]) L;have c1:=s5.trans s6;exact f2 ((a9.trans s4).trans c1) (c1 _ _ e4) r0 rfl (ys:=[l,I]) (s6 _ _ e5) a8 (λy hy=>by rcases MO.mp hy with rfl | hy;exact a0;rw[MB.mp hy];exact a3) ad ((s4.trans c1) _ _ c5) (xM hk zp d1 (a5 ⟨nm,C,l.x.nm,I.x.nm,[J],0⟩)) (Nx.pair (x:=l.x) (y:=I.x) hk rfl rfl (a5 _))
    ·clear h2
     ext;rw[q06 (by simp)];exact s2.trans s3
   ·rintro σ H2 ⟨s2,y2,y3,rfl⟩
    exact q H2 ts rs U (g.up (s1.trans s2)) (λy u _ _ e=>s2 _ _ (s1 _ _ e)) ⋯ ⋯ (λ_=>e7)
abbrev nQ:Stmt:=ij 70
inductive qU(vs:List V)(H:Hp)(Q:VK)(_E:XK):Prop
 |mk (lc td lb:Addr) (cells:List Int) (p:bN) (sg:Nw) (dear side lim:Int) (_:vs=[.ref lc,.ref td]) (_:H lc=some (.lst (cells.map V.int))) (_:1<=cells.length) (_:cells.length<=14) (_:H td=some (.tup [.str (tx sg),.ref lb,.int dear,.int side,.int lim])) (_:H lb=some (.lst (aH p))) (_:p.length=4) (_:(∀r∈p,dP r=true)) (_:fm sg=true) (_:1<=dear) (_:dear<=9) (_:dear<=lim) (_:side<=6) (_:∀tp lr ls ts rs zs H',H' tp=some (.tup [.ref lr,.ref ls])->GS H' p sg lim lr ls ts rs zs->rs.length<=cells.length->zs≠[]->zs.length<=cells.length->az H H'->Q (.ref tp) H')
theorem zi:aw ["_law_cells_here","_law_drawn","_law_rules","_law_stock","_law_cell_here"] ["_law_cells_here","_law_drawn"] (aj nQ):=by walk_at "c"
theorem zH{f:Addr}(F:cF K "_law_grown" "_law_grown" nQ f fd)(nb:NB mg)(zGe:↑dU 3 "_law_step" ["_law_rules","_law_stock","_law_cell_here","_law_drawn"] tM):↑aS 4 f fd ["_law_cells_here","_law_drawn"] qU:=by
 have sc:=zi;walk_at "f"
 ·obtain⟨lc,td,lb,a,p,sg,T,C,D,rfl,O,b3,hc14,a2,a8,a6,a5,a3,b2,b1,b0,a4,q⟩:=h
  have hu:=hr.units;refine⟨_,(af (q01 2 sc.nd (bK ac))
   (af (q01 3 sc.nd (bK ac))
   (af (bP PassesOwn.never rfl (cK (al 0)) (q02 4 sc.nd)
   (ai (bH (aJ zGe (hr.mono nofun) rfl ba (aa (al 2) (aa (al 3) (aa (al 4) (aa (al 1) ac))))))))
   (ai (aF (aG (aa (al 2) (aa (al 3) ac)))))))),?_⟩
  symm;refine⟨MX _,λk m=>h1 _ _ ?_⟩;grind;refine⟨MX _,λb j=>h1 _ _ ?_⟩;grind;have sA:=(ae (o:=.lst []) m).trans (ae (o:=.lst []) j);refine⟨⟨_,aW.of (sA _ _ O)⟩,?_⟩;have S:ay (ay H k (.lst [])) b (.lst []) k=some (.lst []):=ae j _ _ ad;have R:ay (ay H k (.lst [])) b (.lst []) b=some (.lst []):=ad;have M:H b=none:=by
   by_cases e:b=k
   ·rw[e];exact m
   ·rwa [ao e]at j
  have a7:k≠b:=λe=>by rw[<- e,ad]at j;cases j
  generalize ay (ay H k (.lst [])) b (.lst [])=H1 at sA S R ⊢;refine dO (xs:=a.map V.int) (λi σ U=>az H U/\i<=a.length/\(∃v n l,GS U p sg D k b v n l/\n.length<=i/\l.length<=i/\(1<=i->l≠[]))/\∃z,σ=[some (V.ref lc),some (V.ref td),some (V.ref k),some (V.ref b),z])
   ⟨sA,MX _,⟨[],[],[],⟨⟨S,rfl,λi t r e=>by simp at e⟩,λr hr=>(nomatch hr),R,λz hz=>(nomatch hz),λz hz=>(nomatch hz),a7⟩,MW _,MW _,λh=>q0N h nofun⟩,_,rfl⟩ (λi σ U _ h=>aW.of (h.1 _ _ O)) ?_ ?_
  ·rintro i x σ U hx ⟨B,_,⟨v,n,l,g,J,G,Y⟩,z,rfl⟩
   rw[MC]at hx;obtain⟨c,hc,rfl⟩:=M3.mp hx;have a9:i<a.length:=(My.mp hc).1;ext;refine⟨k,b,td,lb,v,n,l,p,sg,c,T,C,D,rfl,g,B _ _ a2,B _ _ a8,a6,a5,a3,b2,b1,b0,a4,⋯,⋯,λH2 a0 a1 Z g' sB l1 l2 L=>?_⟩;refine⟨λy u e=>sB y u (aI e m) (aI e M) (B y u e),a9,a0,a1,Z,g',⋯,⋯,λ_=>L ?_⟩
   by_cases h0:i=0
   ·exact .inr (Nf.mp ⋯)
   ·exact .inl (Y ⋯)
  ·rintro σ U ⟨B,_,⟨v,n,l,g,J,G,Y⟩,z,rfl⟩
   refine h1 _ _ ?_;ext;rw[MA]at J G Y;exact⟨ak nofun,λtp I=>q tp k b v n l _ ad (g.up (ae I)) ⋯ (Y b3) ⋯ (B.trans (ae I))⟩
theorem lW{left:Int}(h8:left<=8):∀(szs:List ((Nat×Nat)×(Nat×Nat))),(∀z∈szs,wZ r c z)->(bx o1 o2 szs left).length<=szs.length*7
 | [],_=>MW _
 |z::szs,h=>by
  have ih:=lW (o1:=o1) (o2:=o2) h8 szs λz' hz'=>h z' (MP _ hz');have f1:=b6 (h z q0B).a (h z q0B).b;have f2:=b6 (h z q0B).d (h z q0B).e;unfold bx at ih ⊢;rw[List.flatMap_cons,MV,MK,MA];unfold nL at ih ⊢;rw[MA,q0G];omega
theorem CW{f:TR->Nat}{left:Int}{M:Nat}{szs:List ((Nat×Nat)×(Nat×Nat))}{ps:List TR}(hs:∀z∈szs,wZ r c z)(h:ps∈bx o1 o2 szs left)(hf:∀p∈ps,4*f p<=2 ^ (7*p.2.2.2.toNat))(hM:2 ^ (7*left.toNat)<=M):16*aR f ps<=M:=by
 obtain⟨z,g,h⟩:=List.mem_flatMap.mp h;obtain⟨x,j,rfl⟩:=Ng.mp h;have j:=kM.mp j;have g1:=b6 (hs z g).a (hs z g).b;have g2:=b6 (hs z g).d (hs z g).e;have h1:=hf _ q0B;have h2:=hf _ (MP _ q0B);show 16*(1*f _*f _)<=_;rw[Nat.one_mul];refine M6 ?_ hM;have e:7*left.toNat=7*x.toNat+7*(left-x).toNat:=by omega
 rw[e,Nat.pow_add];refine M6 (Nat.le_of_eq ?_) (Nat.mul_le_mul h1 h2);rw[show(16:Nat)=4*4 from rfl,Nat.mul_mul_mul_comm]
theorem EX(gc:eF rs)(h12:rs.length<=12):∀(f:Nat) (p:TR),p.2.1<=6->p.2.2.1<=6->p.2.2.2<=9->4*cnt rs f p<=2 ^ (7*p.2.2.2.toNat)
 |0,_,_,_,_=>MX _
 |f+1,p,hr6,hc6,hk=>by
  unfold cnt
  split
  ·exact MX _
  ·rename_i hn
   have hr:1<=p.2.1:=by omega
   have x:1<=p.2.2.1:=by omega
   have k1:1<=p.2.2.2:=by have:=b6 hr x;omega
   have e:2 ^ (7*p.2.2.2.toNat)=128*2 ^ (7*(p.2.2.2-1).toNat):=by
    rw[show 7*p.2.2.2.toNat=7+7*(p.2.2.2-1).toNat by omega,Nat.pow_add]
   have y:1<=2 ^ (7*(p.2.2.2-1).toNat):=Nat.one_le_two_pow;have mono:∀{a:Int},a<=p.2.2.2-1->2 ^ (7*a.toNat)<=2 ^ (7*(p.2.2.2-1).toNat):=λh=>Nat.pow_le_pow_right nofun ⋯;rw[e];generalize 2 ^ (7*(p.2.2.2-1).toNat)=M at y mono;have u:∀q∈gq p.1 rs,((cG q p.2.1 p.2.2.1 p.2.2.2).map λps=>aR (cnt rs f) ps).sum<=128*M/48:=λq J=>by
    obtain⟨C,n,_⟩:=gc q (ik J).1;have l:∀ps∈cG q p.2.1 p.2.2.1 p.2.2.2,∀j∈ps,4*cnt rs f j<=2 ^ (7*j.2.2.2.toNat):=λps g j w=>by
     have o:=jQ C n hr x g w;have:=o.rm;have:=o.cm;have:=o.lt;exact EX gc h12 f j ⋯ ⋯ ⋯
    obtain⟨t,v⟩:=q;have n:1<=v.c:=n;have I:t=0\/t=1\/t=2\/t=3:=by simp at C;omega
    have k:∀b:List ((Nat×Nat)×(Nat×Nat)),(∀z∈b,wZ p.2.1 p.2.2.1 z)->b.length<=5->(∀ps∈bx v.o1 v.o2 b (p.2.2.2-v.c),∀j∈ps,4*cnt rs f j<=2 ^ (7*j.2.2.2.toNat))->((bx v.o1 v.o2 b (p.2.2.2-v.c)).map λps=>aR (cnt rs f) ps).sum<=128*M/48:=λb m h5 l=>by
     have D:=lW (o1:=v.o1) (o2:=v.o2) (left:=p.2.2.2-v.c) ⋯ b m;refine M6 (i8 _ (M/16) _ λps g=>?_) ?_
     ·have:=CW m g (l ps g) (mono (a:=p.2.2.2-v.c) ⋯)
      omega
     ·have B:(bx v.o1 v.o2 b (p.2.2.2-v.c)).length<=35:=by omega
      refine M6 (Nat.mul_le_mul_right _ B) ?_;omega
    rcases I with rfl | rfl | rfl | rfl
    ·have:(cG (0,v) p.2.1 p.2.2.1 p.2.2.2)=(if p.2.1=1/\p.2.2.1=1/\p.2.2.2=v.c then[[]] else[]):=rfl
     rw[this]
     split
     ·show 1+0<=_
      omega
     ·show 0<=_
      omega
    ·exact k _ (λz r=>kR hr r) (by rw[iU];omega) l
    ·exact k _ (λz r=>kI x r) (by rw[iX];omega) l
    ·have G:(cG (3,v) p.2.1 p.2.2.1 p.2.2.2)=[[(v.o1,(if v.t%2=1 then p.2.2.1 else p.2.1),(if v.t%2=1 then p.2.1 else p.2.2.1),p.2.2.2-v.c)]]:=rfl
     have h1:=l _ (by rw[G];exact MB.mpr rfl) _ (MB.mpr rfl);rw[G];show 1*cnt rs f _+0<=_;have h2:=M6 h1 (mono (a:=p.2.2.2-v.c) ⋯);omega
   have m:=i8 _ (128*M/48) _ u;have D:(gq p.1 rs).length<=12:=M6 (List.length_filter_le _ _) h12;have:=M6 m (Nat.mul_le_mul_right _ D);omega
theorem IK(gc:eF rs)(h12:rs.length<=12){p:TR}(hr:p.2.1<=6)(hc:p.2.2.1<=6)(hk:p.2.2.2<=9):CN rs p<=2 ^ 61:=by
 have h1:4*CN rs p<=2 ^ (7*p.2.2.2.toNat):=EX gc h12 17 p hr hc hk;have h2:2 ^ (7*p.2.2.2.toNat)<=2 ^ 63:=Nat.pow_le_pow_right nofun ⋯;have h3:(2:Nat) ^ 63=4*2 ^ 61:=by decide
 omega
theorem ue{F:TR->List aQ}:∀{ps:List TR} {ts:List aQ},ts.length=ps.length->(∀(i:Nat) t p,ts[i]?=some t->ps[i]?=some p->t∈F p)->ts∈bQ F ps
 | [],ts,hl,_=>by
  have:ts=[]:=Nf.mp hl;subst this;simp[bQ]
 |p::ps,[],hl,_=>by simp at hl
 |p::ps,t::ts,hl,h=>List.mem_flatMap.mpr ⟨t,h 0 t p rfl rfl,Ng.mpr ⟨ts,ue (by simpa using hl) λi t' p' e1 e2=>h (i+1) t' p' e1 e2,rfl⟩⟩
theorem Sd.mem{rs:Yaa}(hg:∀r∈rs,fj r):∀(n:Nat) {t:aQ} {p:TR} {pc:bN},t.dep<=n->Sd rs t p pc->p.2.2.2<=16->t∈RT rs p
 |0,t,p,pc,h,_,_=>q0N t.dep1 ⋯
 |n+1,t,p,pc,h,sd,k16=>by
  have gc:=rV hg;have ok:=sd.row hg k16;obtain⟨m,q0,ps,hi,hq,hnm,hpl,hp2,hpp,hpr⟩:=sd.node hg;have hts:t.ps∈bQ (RT rs) ps:=ue hpl.symm λi t' p' e1 e2=>by
   obtain⟨pc',sd',lt'⟩:=hpp i t' p' e1 e2;have:=(aQ.lt (MD e1)).1;exact Sd.mem hg n ⋯ sd' ⋯
  have okp:∀p'∈ps,fN p':=λp' hp'=>by
   obtain⟨i,hi,e⟩:=List.getElem_of_mem hp';have e2:ps[i]?=some p':=by rw[Mx hi,e]
   obtain⟨pc',sd',lt'⟩:=hpp i (t.ps[i]'⋯) p' (Mx ⋯) e2;exact sd'.row hg ⋯
  have a:0<aR (CN rs) ps:=by
   have:=List.length_pos_of_mem hts
   rwa [fG (g:=CN rs) λp' hp'=>bU gc (okp p' hp')]at this
  rw[uJ gc ok];refine List.mem_flatMap.mpr ⟨_,Az hq hnm hpr a (sd.low hg).1,Ng.mpr ⟨t.ps,hts,?_⟩⟩;show iS (m:Int) t.ps=t;rw[<- hi,Ay]
abbrev mz:Stmt:=ij 48
def II(H:Hp)(l:Addr)(ts:List aQ):Prop:=∃vs,H l=some (.lst vs)/\aP H (ts.map aQ.d) vs
inductive o8(R:RC)(CG CN_ CM_:Addr)(vs:List V)(H:Hp)(Q:VK)(E:XK):Prop
 |mk (g dg:Addr) (sg st:Nw) (as:NA) (rs:Yaa) (m:Nat) (p:TR) (_:vs=[.ref g,.str (tx p.1),.int (p.2.1:Int),.int (p.2.2.1:Int),.int p.2.2.2]) (_:dB R H CG dg g sg st as rs) (_:oY st rs m) (_:((qd st rs m p/\(CN rs p<=300->∀l H',H l=none->II H' l (RT rs p)->az H H'->Q (.ref l) H')/\(300<CN rs p->∀H',az H H'->E (.ref CM_) none H'))\/(tx p.1∉(bf (tx st) rs).map (·.1)/\∀H',az H H'->E (.ref CN_) none H')))
theorem xF:aw ["grammar","name","rows","columns","cost","tree_rows","row","many"] ["grammar","name","rows","columns","cost"] (aj mz):=by walk_at "c"
theorem xK{f CT yaa yab yaf:Addr}{tk:Tok}(F:cF K "trees_of" "trees_of" mz f fd)(nb:NB mg)(ct:fQ K CT)(nt:aq K CT "grammar"/\aq K CT "steps"/\aq K CT "totals")(ybe:mg "MOST_TREES"=some (.int 300 tk))(yax:mg "TooMany"=some (.ref yaf))(ya9:XR K yaf)
  (yam:↑lz 1 "TreeRows" CT ["self","grammar"] (fz K)) (yah:cg P w K mg base (bG P w) 72 CT "many_in" ["self","row"] (bz R CG CT yaa 17)) (yay:cg P w K mg base (bG P w) 107 CT "tree_in" ["self","row","k"] (cv R CG CT yaa yab 17)) :
  aS P w K mg base (bG P w) 108 f fd ["grammar","name","rows","columns","cost"] (o8 R CG yaa yaf):=by
 have sc:=xF;walk_at "x"
 ·obtain⟨g,dg,T,S,as,r,m,p,rfl,_⟩:=h;rfl
 ·obtain⟨g,dg,T,S,as,r,m,p,rfl,gr,ok,cs⟩:=h
  have hu:=hr.units;refine⟨_,(af (aD (i:=5) sc.nd rfl (Or.inr rfl) (gl yam (hr.mono nofun) rfl ba (aa (al 0) ac)))
   (af (aD (i:=6) sc.nd rfl (Or.inr rfl) (aG (aa (al 1) (aa (al 2) (aa (al 3) (aa (al 4) ac))))))
   (af (q01 7 sc.nd (bS yah (hr.mono nofun) (aY λ_ _ _ h=>h) (al 5) (aa (al 6) ac)))
   (af (bC (aK (bc.m0 jx) (al 7) (b_ (v:=.int 300) rfl ybe ⟨_,rfl⟩) (aN _))
   (ai (dF ya9 rfl rfl yax (fb λ_ _ _ h=>h) (bh ac)))
   aL)
   (ai (aF (cH ["k"] [5,6] rfl (bE.of (by kernel_rfl)) (by kernel_rfl) (eS rfl nb.range (aa (al 7) ac))
    (λ_ _ _ _=>(aB (i:=0) (by show(["k","tree_rows","row"]:List Str).Nodup;decide +kernel) rfl (Or.inl rfl))) (λ_ _ _ _=>ce) (λ_ _ _ _=>(bS (CX:=bG P w) yay (hr.mono nofun) bt (al 1) (aa (al 2) (aa (al 0) ac))))))))))),?_⟩
  symm;intro x B hx a7 a6;have D:az H (ay (ay H B (.own x)) x (.ins CT B [])):=(ae a7).trans (ae (by rw[ao (Ne.symm a6)];exact hx));refine⟨x,CT,B,g,rfl,ad,ct.cl,nt,λJ I L f1 f2 a3 ex b0 a9 sx=>⟨rfl,h1 _ _ ?_⟩⟩;clear h1;have s2:az H L:=λy u e=>sx y u (aI e hx) (D y u e);symm;refine⟨ak nofun,λb hb=>h1 _ _ ?_⟩;clear h1;have s3:=ae (o:=.tup (b5 p)) hb;have G:=s2.trans s3;have O:gX R CG CT (ay L b (.tup (b5 p))) x B g dg J I T S as r m:=yH gr ok G a3 (s3 _ _ ex) (s3 _ _ b0) (s3 _ _ a9);have eb:ay L b (.tup (b5 p)) b=some (.tup (b5 p)):=ad;have k:∀{H4},b8 J I (ay L b (.tup (b5 p))) H4->az H H4:=λsd y u e=>sd y u (λz=>by rw[z,D.free f1]at e;cases e) (λz=>by rw[z,D.free f2]at e;cases e) (G y u e);have a2:∀{y},ay L b (.tup (b5 p)) y=none->H y=none:=λh=>ia G h;change gX R CG CT (ay L b (HO.tup (b5 p))) x B g dg J I T S as r m at O;rw[show[V.str (tx p.1),V.int (p.2.1:Int),V.int (p.2.2.1:Int),V.int p.2.2.2]=b5 p from rfl];generalize ay L b (.tup (b5 p))=H3 at O eb k a2 ⊢;symm;refine⟨B,_,O.at_,rfl,x,B,g,dg,J,I,b,T,S,as,r,m,p,rfl,O,eb,?_⟩;rcases cs with⟨dp,q,bad⟩ | ⟨nn,a8⟩
  rotate_left
  ·exact .inr ⟨nofun,nn,a8 _ (k λ_ _ _ _ e=>e)⟩
  refine .inl ⟨dp,nofun,by have:=dp.k16;omega,λH4 Y a5=>h1 _ _ ?_⟩;clear h1;have a1:=dp.row ok.m6;have a0:=bU ok.gc a1;symm;refine b9 (λt1=>?_) (λt1=>?_)
  ·exact⟨ak nofun,bad ⋯ H4 (k Y)⟩
  refine h1 _ _ ?_;clear h1;ext;refine⟨⋯,⋯,?_⟩;rw[MI];refine fD (lo:=0) (n:=CN r p) (λi a σ M=>b8 J I H3 M/\dY S r m M J I/\i<=CN r p/\aP M (((RT r p).take i).map aQ.d) a/\∃z,σ=[z,some (V.ref x),some (V.ref b)]) ⟨Y,a5,MX _,by rw[Nq];exact aP.nil,_,rfl⟩ ?_ ?_ ?_ ?_
  ·rintro i a σ M ⟨_,_,hi,c,_⟩
   rw[c.length,MA,Nb];exact bq ⋯
  ·rintro i a σ M ⟨_,_,h,_⟩
   exact h
  ·rintro i a σ M hi ⟨sd,mm,_,c,y,rfl⟩
   have C:=O.next sd mm;obtain⟨t,ht⟩:∃t,(RT r p)[i]?=some t:=⟨_,Mx ⋯⟩;ext;refine⟨B,_,C.at_,rfl,x,B,g,dg,J,I,b,T,S,as,r,m,p,(i:Int),by simp,C,(O.kp sd).tup eb,nofun,.inl ⟨dp,by have:=dp.k16;omega,λj t' hj Z v H5 U a4 hv=>?_,λh=>q0N h ⋯⟩⟩;have hj:i=j:=by omega
   subst hj;rw[ht]at Z;cases Z;refine⟨sd.trans U,a4,hi,?_⟩;rw[qG ht,ML];exact aP.app (aP.up (λb xs e=>(C.kp U).tup e) _ c) (aP.cons hv aP.nil)
  ·rintro a σ M ⟨sd,mm,_,c,y,rfl⟩ l hl
   have s':=ae (o:=.lst a) hl;refine q ⋯ l _ (ia (k sd) hl) ⟨a,ad,?_⟩ ((k sd).trans s');rw[<- a0,Na]at c;exact aP.up (dX.of s') _ c
structure Cp(rs:Yaa)(t t':aQ)(y:Bh):Prop where
 flt:∀pl w,cf rs t pl w=none->cf rs t' pl w=some (y.1,pl++y.2)
 dep:t'.dep<=t.dep+1
theorem Cp.num{rs:Yaa}{t:aQ}{i:Int}(h:i<0\/(rs.length:Int)<=i):Cp rs t (iS i t.ps) (Str.ofString "number",[]):=by
 refine⟨λpl w _=>?_,?_⟩
 ·rw[EE,wV]
  unfold mL;rw[q07 h,M9]
 ·cases t<;>simp[aQ.ps,iS,aQ.dep]
theorem Cp.parts{t:aQ}{ds:List aQ}(h2:ds.length<=2)(hn:ds.length≠t.ps.length)(hd:(iS t.i ds).dep<=t.dep+1):Cp rs t (iS t.i ds) (Str.ofString "parts",[]):=by
 refine⟨λa w h=>?_,hd⟩;rw[EE]at h ⊢;rw[wV,vg _ h2];cases c:mL rs t.i t.ps.length a w with
 |some z=>rw[c]at h;cases h
 |none=>
  obtain⟨m,r,e,b,g,_⟩:=DC c;have j:mL rs t.i ds.length a w=some (Str.ofString "parts",a):=by
   have hml:=(My.mp b).1;unfold mL;rw[e,q06 ⋯,MI,b]
   try dsimp only
   rw[q07 (by rw[<- g];exact hn)]
  rw[j,M9]
theorem Cp.step{t s:aQ}{j:Nat}(h:t.ps[j]?=some s)(b:Cp rs s s' y):Cp rs t (iS t.i (t.ps.set j s')) (y.1,j::y.2):=by
 refine⟨λg w e=>?_,?_⟩
 ·cases t with
  |n0 i=>simp[aQ.ps]at h
  |n1 i a=>
   match j,h with
   |0,h=>
    cases h;show cf rs (.n1 i s') g w=_;unfold cf at e ⊢;cases k:mL rs i 1 g w with
    |some z=>rw[k]at e;cases e
    |none=>
     rw[k]at e;dsimp only at e ⊢;rw[b.flt _ _ e,M_];rfl
   |j+1,h=>simp[aQ.ps]at h
  |n2 i a c=>
   match j,h with
   |0,h=>
    cases h;show cf rs (.n2 i s' c) g w=_;unfold cf at e ⊢;cases k:mL rs i 2 g w with
    |some z=>rw[k]at e;cases e
    |none=>
     rw[k]at e;dsimp only at e ⊢;cases h1:cf rs s (g++[0]) (gP rs i 0) with
     |some z=>rw[h1]at e;cases e
     |none=>rw[b.flt _ _ h1,M_];rfl
   |1,h=>
    cases h;show cf rs (.n2 i a s') g w=_;unfold cf at e ⊢;cases k:mL rs i 2 g w with
    |some z=>rw[k]at e;cases e
    |none=>
     rw[k]at e;dsimp only at e ⊢;cases h1:cf rs a (g++[0]) (gP rs i 0) with
     |some z=>rw[h1]at e;cases e
     |none=>
      rw[h1]at e;dsimp only at e ⊢;rw[b.flt _ _ e,M_];rfl
   |j+2,h=>simp[aQ.ps]at h
 ·have:=(FV (u:=s') h).2
  have:=(aQ.lt (MD h)).1;have:=b.dep;omega
def Ix(H:Hp)(tp:Addr)(t:aQ)(y:Bh):Prop:=∃(bv:V) (wp pp:Addr),H tp=some (.tup [bv,.ref wp])/\H wp=some (.tup [.str y.1,.ref pp])/\H pp=some (.tup (AG y.2))/\cE H t.d bv
theorem Gv(c:Int){n:Nat}(h:0<n):∃j,j<n/\c%(n:Int)=(j:Int):=by
 have h1:=Nm c (b:=(n:Int)) ⋯;have h2:=Nn c (b:=(n:Int)) ⋯;exact⟨(c%(n:Int)).toNat,⋯,⋯⟩
theorem uH{H:Hp}{i:Int}{ds:List aQ}{ws:List V}(hl:ds.length<=2)(h:H p=some (.tup (V.int i::ws)))(k:aP H (ds.map aQ.d) ws):cE H (iS i ds).d (.ref p):=aQ.of (by rw[wV];exact h) (by rw[vg _ hl];exact k)
theorem Ff(t:aQ)(n:Nat):(iS t.i (t.ps.take n)).cnt<=t.cnt/\(iS t.i (t.ps.take n)).dep<=t.dep:=by
 cases t with
 |n0 i=>simp[aQ.ps,aQ.i,iS]
 |n1 i a=>match n with
  |0=>simp only[aQ.ps,aQ.i,Nq,iS,aQ.cnt,aQ.dep];omega
  |n+1=>simp[aQ.ps,aQ.i,iS]
 |n2 i a b=>match n with
  |0=>simp only[aQ.ps,aQ.i,Nq,iS,aQ.cnt,aQ.dep];omega
  |1=>simp only[aQ.ps,aQ.i,List.take_succ_cons,Nq,iS,aQ.cnt,aQ.dep];omega
  |n+2=>simp[aQ.ps,aQ.i,iS]
theorem yC:∀{ds:List aQ} {xs:List V},aP H (ds.map aQ.d) xs->aP H ((ds.take n).map aQ.d) (xs.take n):=by
 intro ds xs h
 induction ds generalizing xs n with
 |nil=>rw[List.map_nil]at h;unfold aP at h;subst h;simpa using aP.nil
 |cons d ds ih=>
  obtain⟨x,r,rfl,h1,h2⟩:=h.uncons
  match n with
  |0=>exact aP.nil
  |n+1=>exact aP.cons h1 (ih h2)
theorem Dp{t:aQ}(h:t.ps.length<=1):(iS t.i (t.ps++[t])).dep<=t.dep+1:=by
 cases t with
 |n0 j=>simp[aQ.ps,aQ.i,iS,aQ.dep]
 |n1 j a=>show max a.dep (aQ.n1 j a).dep+1<=_;simp only[aQ.dep];omega
 |n2 j a b=>simp[aQ.ps]at h
theorem Dy:ID 10 30:=⟨nofun,nofun,nofun⟩
abbrev mj:Stmt:=ij 74
inductive kj(vs:List V)(H:Hp)(Q:VK)(_E:XK):Prop
 |mk (v:V) (c:Int) (rs:Yaa) (t:aQ) (_:vs=[v,.int c,.int (rs.length:Int)]) (_:cE H t.d v) (_:rs.length<=24) (_:∀tp t' y H',az H H'->Ix H' tp t' y->Cp rs t t' y->y.2=[]->Q (.ref tp) H')
theorem wC:aw ["_law_tree","_law_cell_here","_law_many","_law_far"] ["_law_tree","_law_cell_here","_law_many"] (aj mj):=by walk_at "c"
theorem wy{f:Addr}(F:cF K "_law_spoilt" "_law_spoilt" mj f fd)(nb:NB mg):↑aS 1 f fd ["_law_tree","_law_cell_here","_law_many"] kj:=by
 have sc:=wC;walk_at "f"
 ·obtain⟨v,c,rs,t,rfl,ht,h24,q⟩:=h
  have hu:=hr.units;refine⟨_,(af (q01 3 sc.nd (au (bc.m1 br) (au (bc.m1 bR) (al 1) ah) (au (bc.m1 D') ah ah)))
   (af (bC (aK fq (au (bc.m1 br) (al 1) ah) ah (aN _))
   (ai (aF (aG (aa (au cB (aG (aa (au (bc.m0 bF) (al 2) (al 3)) ac)) (cJ mQ (al 0) (cW ah) dN)) (aa (aG (bh (aa (aG ac) ac))) ac)))))
   aL)
   (af (bC (aK fq (au (bc.m1 br) (al 1) ah) ah (aN _))
   (ai (aF (aG (aa (au cB (aG (aa (au (bc.m0 cX) (AC vE ah) (al 3)) ac)) (cJ mQ (al 0) (cW ah) dN)) (aa (aG (bh (aa (aG ac) ac))) ac)))))
   aL)
   (af (bC (PW.pt (iO (aK fq (av gB rfl nb.len aV (aa (al 0) ac)) ah (aN _)) (fH (PW.pt (l7 (aK fq (au (bc.m1 br) (al 1) ah) ah (aN _)) (nE (aK fq (av gB rfl nb.len aV (aa (al 0) ac)) ah (aN _))))))))
   (ai (aF (aG (aa (cJ mQ (al 0) dN (cW (au (bc.m0 cX) (av gB rfl nb.len aV (aa (al 0) ac)) ah))) (aa (aG (bh (aa (aG ac) ac))) ac)))))
   aL)
   (ai (aF (aG (aa (au cB (al 0) (aG (aa (al 0) ac))) (aa (aG (bh (aa (aG ac) ac))) ac))))))))),?_⟩
  obtain⟨a,J,rfl,L,hw⟩:=aQ.val ht;have T:=hw.length;rw[MA]at T;have a1:=t.plen;symm;refine⟨Dy,nofun,h1 _ _ ?_⟩;clear h1;obtain⟨M,a0,hfar0⟩:∃M:Int,c/4%10 ^ Int.toNat 30=M/\0<=M:=⟨_,rfl,Nm _ nofun⟩;rw[a0]
  -- the fault's own tuples
  have S:∀(Y:Str) (y:Bh) (I:Hp) (b:V) (t':aQ),y=(Y,[])->az H I->cE I t'.d b->Cp rs t t' y->∀g,I g=none->∀j,ay I g (.tup []) j=none->∀l,ay (ay I g (.tup [])) j (.tup [.str Y,.ref g]) l=none ->
    Q (.ref l) (ay (ay (ay I g (.tup [])) j (.tup [.str Y,.ref g])) l (.tup [b,.ref j])):=by
   rintro Y y I b t' rfl s1 hb bad g B j r l u;have s2:=ae (o:=.tup []) B;have s3:=ae (o:=.tup [.str Y,.ref g]) r;have s4:=ae (o:=.tup [b,.ref j]) u;exact q l t' _ _ (s1.trans (s2.trans (s3.trans s4))) ⟨b,j,g,ad,s4 _ _ ad,s4 _ _ (s3 _ _ ad),hb.up (dX.of (s2.trans (s3.trans s4))) _⟩ bad rfl
  have num:∀Z:Int,(Z<0\/(rs.length:Int)<=Z)->∀p,H p=none->∀R k,k R=some (.tup (fW (V.int t.i::J) (some 1) none))->az (ay H p (.tup [V.int Z])) k ->
    Av K (.ref p) (.ref R) k λx I=>0<=sizeLine/\∀g,I g=none->2<=sizeLine/\∀j,ay I g (.tup []) j=none->2<=sizeLine/\∀l,ay (ay I g (.tup [])) j (.tup [.str (Str.ofString "number"),.ref g]) l=none ->
     Q (.ref l) (ay (ay (ay I g (.tup [])) j (.tup [.str (Str.ofString "number"),.ref g])) l (.tup [x,.ref j])):=by
   intro Z hi p n R k G C;rw[Eg]at G;refine dh (C _ _ ad) G (by simp) (by simp;omega) λp4 HD U sD=>⟨MX _,λg B=>⟨ak nofun,λj r=>⟨ak nofun,λl u=>?_⟩⟩⟩;have D:=(ae n).trans (C.trans sD);exact S _ _ HD _ (iS Z t.ps) rfl D (uH a1 U (hw.up (dX.of D) _)) (Cp.num hi) g B j r l u
  have O:1<=t.ps.length->∀p k,k p=some (.tup (fW (V.int t.i::J) none (some (((V.int t.i::J).length:Int)-1))))->az H k ->
    0<=sizeLine/\∀g,k g=none->2<=sizeLine/\∀j,ay k g (.tup []) j=none->2<=sizeLine/\∀l,ay (ay k g (.tup [])) j (.tup [.str (Str.ofString "parts"),.ref g]) l=none ->
     Q (.ref l) (ay (ay (ay k g (.tup [])) j (.tup [.str (Str.ofString "parts"),.ref g])) l (.tup [.ref p,.ref j])):=by
   intro h1 p k n C;have e:fW (V.int t.i::J) none (some (((V.int t.i::J).length:Int)-1))=V.int t.i::J.take (t.ps.length-1):=by
    unfold fW;rw[HT.sIx_none,MK,show(((J.length+1:Nat):Int)-1)=((J.length:Nat):Int) by omega,HT.sIx_nat,T];obtain⟨m,hm⟩:∃m,t.ps.length=m+1:=⟨t.ps.length-1,⋯⟩;rw[hm,Np ⋯];simp
   rw[e]at n;refine⟨MX _,λg B=>⟨ak nofun,λj r=>⟨ak nofun,λl u=>?_⟩⟩⟩;have hl:(t.ps.take (t.ps.length-1)).length=t.ps.length-1:=by rw[Nb];omega
   exact S _ _ k _ (iS t.i (t.ps.take (t.ps.length-1))) rfl C (uH ⋯ n (yC (hw.up (dX.of C) _))) (Cp.parts ⋯ ⋯ (by have:=(Ff t (t.ps.length-1)).2;omega)) g B j r l u
  symm;refine b9 (λa4=>?_) λa4=>h1 _ _ ?_
  ·exact⟨ak nofun,λp n=>⟨_,(ae n) _ _ L,λR k G C=>num _ (.inr ⋯) p n R k G C⟩⟩
  grind;refine b9 (λa3=>?_) λa3=>h1 _ _ ?_
  ·exact⟨ak nofun,λp n=>⟨_,(ae n) _ _ L,λR k G C=>num _ (.inl ⋯) p n R k G C⟩⟩
  clear h1;refine am λN1 h1=>?_;have more:t.ps.length<=1->N1 [some (V.ref a),some (V.int c),some (V.int (rs.length:Int)),some (V.int M)] H:=λa2=>by
   refine h1 _ _ ?_;clear h1;ext;refine⟨ak nofun,λp n=>dh ((ae n) _ _ L) ad (by simp) (by simp;omega) λp4 HD U sD=>⟨MX _,λg B=>⟨ak nofun,λj r=>⟨ak nofun,λl u=>?_⟩⟩⟩⟩;have D:=(ae n).trans sD;exact S _ _ HD _ (iS t.i (t.ps++[t])) rfl D (uH (by simp;omega) U (by rw[ML];exact aP.app (hw.up (dX.of D) _) (aP.cons (ht.up (dX.of D) _) aP.nil))) (Cp.parts (by simp;omega) (by simp) (Dp a2)) g B j r l u
  ext;have e3:((V.int t.i::J).length:Int)=(t.ps.length:Int)+1:=by rw[MK,T];omega
  refine⟨_,aZ.of L,b9 (λh3=>⟨_,aZ.of L,_,L,λp k n C=>O (by rw[e3]at h3;omega) p k n C⟩) λh3=>b9 (λh2=>⟨_,aZ.of L,b9 (λh4=>⟨_,aZ.of L,_,L,λp k n C=>O (by rw[e3]at h4;omega) p k n C⟩) λh4=>more (by rw[e3]at h3;omega)⟩) λh2=>more (by rw[e3]at h3;omega)⟩
theorem ua{d:Dt}(hx:cE H d x):∀{ds:List Dt} {xs:List V} {j:Nat},aP H ds xs->j<ds.length->aP H (ds.set j d) (xs.take j++x::xs.drop (j+1))
 | [],_,j,h,hj=>q0N hj (by simp)
 |e::ds,xs,0,h,hj=>by
  obtain⟨y,r,rfl,h1,h2⟩:=h.uncons;exact aP.cons hx h2
 |e::ds,xs,j+1,h,hj=>by
  obtain⟨y,r,rfl,h1,h2⟩:=h.uncons;exact aP.cons h1 (ua hx h2 (by simpa using hj))
theorem xI:∀{ds:List Dt} {xs:List V},aP H ds xs->∀{j:Nat} {d:Dt},ds[j]?=some d->∃x,xs[j]?=some x/\cE H d x
 | [],_,h,j,x,e=>by simp at e
 |d::ds,xs,h,j,x,e=>by
  obtain⟨y,r,rfl,h1,h2⟩:=h.uncons
  match j,e with
  |0,e=>cases e;exact⟨y,rfl,h1⟩
  |j+1,e=>exact xI h2 e
abbrev fh:Stmt:=ij 75
inductive dZ(n:Nat)(vs:List V)(H:Hp)(Q:VK)(_E:XK):Prop
 |mk (v:V) (c:Int) (rs:Yaa) (t:aQ) (_:vs=[v,.int c,.int (rs.length:Int)]) (_:cE H t.d v) (_:rs.length<=24) (_:t.dep<=n) (_:∀tp t' y H',az H H'->Ix H' tp t' y->Cp rs t t' y->y.2.length<=n->Q (.ref tp) H')
theorem gE:aw ["_law_tree","_law_cell_here","_law_many","_law_part","_law_bad","_law_why_here"] ["_law_tree","_law_cell_here","_law_many"] (aj fh):=by walk_at "c"
theorem gW{f:Addr}(F:cF K "_law_spoilt_within" "_law_spoilt_within" fh f fd)(nb:NB mg)(zzb:↑dU 1 "_law_spoilt" ["_law_tree","_law_cell_here","_law_many"] kj)(hm:mg "_law_spoilt_within"=some (.ref f))(hk:W.keepIn K (.ref f)=true)(hb:cq K fd ["_law_tree","_law_cell_here","_law_many"] []):∀n,n<=60->↑aS (n+1) f fd ["_law_tree","_law_cell_here","_law_many"] (dZ n)
 |0,_=>by
  refine F.ok gE (λvs H Q E h=>?_) (λcdv A outer s H vs Q E hr h=>?_)
  ·obtain⟨v,c,rs,t,rfl,_⟩:=h;rfl
  ·obtain⟨v,c,rs,t,rfl,_,_,hd,_⟩:=h
   have:=t.dep1;omega
 |n+1,hn=>by
  have sc:=gE;have zxa:↑dU (n+1) "_law_spoilt_within" ["_law_tree","_law_cell_here","_law_many"] (dZ n):=⟨f,fd,gW F nb zzb hm hk hb n ⋯,hm,hk,hb⟩;walk_at "f"
  ·obtain⟨v,c,rs,t,rfl,ht,h24,hd,q⟩:=h
   have hu:=hr.units;refine⟨_,(af (bC (PW.pt (iO (aK fq (au (bc.m1 br) (al 1) ah) ah (aN _)) (fH (aK fq (av gB rfl nb.len aV (aa (al 0) ac)) ah (aN _)))))
   (ai (aF (aJ zzb (hr.mono ⋯) rfl ba (aa (al 0) (aa (au (bc.m1 bR) (al 1) ah) (aa (al 2) ac))))))
   aL)
   (af (q01 3 sc.nd (au (bc.m1 br) (au (bc.m1 bR) (al 1) ah) (au (bc.m0 cX) (av gB rfl nb.len aV (aa (al 0) ac)) ah)))
   (af (yZ (aJ zxa (hr.mono ⋯) rfl ba (aa (aE aC (al 0) (au (bc.m0 bF) (al 3) ah) (λ_ _=>rfl)) (aa (au (bc.m1 bR) (al 1) ah) (aa (al 2) ac)))) (fB (n:=2) rfl (aM (q02 4 sc.nd) (aM (q02 5 sc.nd) cY))))
   (ai (aF (aG (aa (au cB (au cB (cJ mQ (al 0) dN (cW (au (bc.m0 bF) (al 3) ah))) (aG (aa (al 4) ac))) (cJ mQ (al 0) (cW (au (bc.m0 bF) (al 3) ah)) dN)) (aa (aG (aa (aE aC (al 5) ah (λ_ _=>rfl)) (aa (au cB (aG (aa (al 3) ac)) (aE aC (al 5) ah (λ_ _=>rfl))) ac))) ac)))))))),?_⟩
   obtain⟨a,ws,rfl,ha,hw⟩:=aQ.val ht;have hwl:=hw.length;rw[MA]at hwl;have hp2:=t.plen;symm;have ybT:kj [V.ref a,V.int (c/3),V.int (rs.length:Int)] H Q E0:=⟨.ref a,c/3,rs,t,rfl,ht,h24,λtp t' y H' s1 s2 b e=>q tp t' y H' s1 s2 b (by rw[e];exact MX _)⟩;refine b9 (λ_=>ybT) λ_=>⟨_,aZ.of ha,b9 (λ_=>ybT) λhl=>h1 _ _ ?_⟩;clear h1;have e3:((V.int t.i::ws).length:Int)=(t.ps.length:Int)+1:=by rw[MK,hwl];omega
   rw[e3]at hl;have U:0<t.ps.length:=by omega
   symm;refine⟨_,aZ.of ha,by rw[e3];omega,h1 _ _ ?_⟩;clear h1;obtain⟨j,hj,ej⟩:=Gv (c/3) U;rw[e3,show(t.ps.length:Int)+1-1=(t.ps.length:Int) by omega,ej];have J:=Mx hj;generalize t.ps[j]=s0 at J;have hds:=(aQ.lt (MD J)).1;symm;obtain⟨x0,S,R⟩:=xI hw (j:=j) (d:=s0.d) (by rw[MC,J];rfl);have ax:gZ (V.int t.i::ws) ((j:Int)+1)=some x0:=by
    rw[show(j:Int)+1=((j+1:Nat):Int) by omega];exact aU (by rw[M4];exact S)
   refine⟨_,aZ.of ha,_,ax,x0,c/9,rs,s0,rfl,R,h24,⋯,λtp s' y H1 s1 sp bd yl=>?_⟩;obtain⟨bv,wp,pp,e1,e2,e4,e5⟩:=sp;refine⟨tp,rfl,_,aZ.of e1,rfl,_,_,rfl,_,_,rfl,rfl,h1 _ _ ?_⟩;clear h1;have G:=s1 _ _ ha;have T:=hw.up (dX.of s1) _;ext;have c1:fW (V.int t.i::ws) none (some ((j:Int)+1))=V.int t.i::ws.take j:=by
    unfold fW;rw[HT.sIx_none,show(j:Int)+1=((j+1:Nat):Int) by omega,HT.sIx_nat,MK,Np ⋯];simp
   have c2:fW (V.int t.i::ws) (some ((j:Int)+2)) none=ws.drop (j+1):=by
    unfold fW;rw[HT.sIx_none,show(j:Int)+2=((j+2:Nat):Int) by omega,HT.sIx_nat,MK,Np ⋯];simp[q0E]
   refine⟨_,G,λp HA hp sA=>⟨ak nofun,λpb Y=>?_⟩⟩;rw[c1]at hp;have sb:=ae (o:=.tup [bv]) Y;refine dh (sb _ _ hp) ad (by simp) (by simp;omega) λp5 HB a1 sB=>?_;have m:az H1 HB:=sA.trans (sb.trans sB);refine⟨_,m _ _ G,λp6 HC B sC=>?_⟩;rw[c2]at B;refine dh (sC _ _ a1) B (by simp) (by simp;omega) λp7 HD x sD=>?_;have g:az H1 HD:=m.trans (sC.trans sD);refine⟨_,aZ.of (g _ _ e2),_,aU (j:=0) rfl,ak nofun,λp8 a0=>?_⟩;have L:=ae (o:=.tup [V.int (j:Int)]) a0;refine⟨_,aZ.of (L _ _ (g _ _ e2)),_,aU (j:=1) rfl,?_⟩;refine dh ad (L _ _ (g _ _ e4)) (by simp) (by rw[Ag];simp;omega) λp9 HE Z sE=>⟨ak nofun,λu D=>⟨ak nofun,λO C=>?_⟩⟩;have M:=ae (o:=.tup [V.str y.1,V.ref p9]) D;have r:=ae (o:=.tup [V.ref p7,V.ref u]) C;have l:az HD HE:=L.trans sE;have k:=M.trans r;have I:V.int t.i::ws.take j++[bv]++ws.drop (j+1)=V.int t.i::(ws.take j++bv::ws.drop (j+1)):=by simp
   rw[I]at x;refine q O (iS t.i (t.ps.set j s')) (y.1,j::y.2) _ (s1.trans (g.trans (l.trans k))) ⟨.ref p7,u,p9,ad,r _ _ ad,k _ _ Z,?_⟩ (bd.step J) (by simp;omega);refine(uH (H:=HD) (by rw[Nl];exact hp2) x ?_).up (dX.of (l.trans k)) _;rw[List.map_set];exact ua (e5.up (dX.of g) _) (T.up (dX.of g) _) (by rw[MA];exact hj)
abbrev nI:Stmt:=ij 71
inductive se(R:RC)(CG CN_ CU_:Addr)(vs:List V)(H:Hp)(Q:VK)(_E:XK):Prop
 |mk (g dg sh:Addr) (sg st:Nw) (as:NA) (rs:Yaa) (m:Nat) (p:TR) (kv:V) (_:vs=[.ref g,.ref sh,kv]) (_:H sh=some (.tup (b5 p))) (_:dB R H CG dg g sg st as rs) (_:oY st rs m) (_:(((kv=.non\/∃k,kv=.int k)/\tx p.1∉(bf (tx st) rs).map (·.1)/\∀ea H',az H H'->Fq H' ea CN_->Q (.ref ea) H')\/(∃k:Int,kv=.int k/\qd st rs m p/\(k<0\/(CN rs p:Int)<=k)/\∀ea H',az H H'->Fq H' ea CU_->Q (.ref ea) H')\/(∃(j:Nat) (t:aQ),kv=.int (j:Int)/\qd st rs m p/\(RT rs p)[j]?=some t/\∀H',az H H'->Q .non H')))
theorem yY:aw ["_law_grammar_here","_law_shape","_law_k","_law_error_here","e"] ["_law_grammar_here","_law_shape","_law_k"] (aj nI):=by walk_at "c"
theorem zw{f yaa yae yab yaf:Addr}{bmD:Nz}{nD:String}(F:cF K "_law_error" "_law_error" nI f fd)(nb:NB mg)
  (yaL:mg "QuiltError"=some (.ref yae)) (yaJ:ju K yae bmD nD) (hbase:bmD.contains (.type "BaseException")=true) {bmN:Nz} {nN:String} (ya4:ju K yaa bmN nN) (und:oS K yaa yae) {bmU:Nz} {nU:String} (yba:ju K yab bmU nU) (und2:oS K yab yae)
  (ybc:dU P w K mg base (bG P w) 108 "trees_of" ["grammar","name","rows","columns","cost"] (o8 R CG yaa yaf)) (ybo:dU P w K mg base (bG P w) 108 "tree_at" ["grammar","name","rows","columns","cost","k"] (sf R CG yaa yab)):↑aS 109 f fd ["_law_grammar_here","_law_shape","_law_k"] (se R CG yaa yab):=by
 have sc:=yY;walk_at "f"
 ·obtain⟨g,B,sh,x,u,D,y,m,p,Y,rfl,a,gr,ok,cs⟩:=h
  have hu:=hr.units;refine⟨_,(af (q01 3 sc.nd iu)
   (af (zM (i:=4) sc.nd rfl rfl (aK Ia (al 2) iu (aN _)) (zC ybc (hr.mono nofun) rfl (aa (al 0) (aa (aE aC (al 1) ah (λ_ _=>rfl)) (aa (aE aC (al 1) ah (λ_ _=>rfl)) (aa (aE aC (al 1) ah (λ_ _=>rfl)) (aa (aE aC (al 1) ah (λ_ _=>rfl)) ac)))))) (zC ybo (hr.mono nofun) rfl (aa (al 0) (aa (aE aC (al 1) ah (λ_ _=>rfl)) (aa (aE aC (al 1) ah (λ_ _=>rfl)) (aa (aE aC (al 1) ah (λ_ _=>rfl)) (aa (aE aC (al 1) ah (λ_ _=>rfl)) (aa (al 2) ac))))))) rfl rfl rfl yaL yaJ hbase (λc=>(ai (q01 3 sc.nd (al 4)))))
   (ai (aF (al 3))))),?_⟩
  symm;refine h1 _ _ ?_;grind;have L:gZ (b5 p) 0=some (V.str (tx p.1)):=aU (j:=0) rfl;have J:gZ (b5 p) 1=some (V.int (p.2.1:Int)):=aU (j:=1) rfl;have I:gZ (b5 p) 2=some (V.int (p.2.2.1:Int)):=aU (j:=2) rfl;have G:gZ (b5 p) 3=some (V.int p.2.2.2):=aU (j:=3) rfl;have l:∀(C c:Addr) (O:NJ) (o:Hp),(∀c M,az H M->Fq M c C->Q (.ref c) M)->az H o->o c=none->O=none->N1 [some (V.ref g),some (V.ref sh),some Y,some (V.ref c),none] (ay o c (xo c (.ref C) O)):=by
   rintro C c O o q n b rfl;refine h1 _ _ ?_;ext;exact q c _ (n.trans (ae b)) (.inl ad)
  rcases cs with⟨S,T,q⟩ | ⟨k,rfl,r,Z,q⟩ | ⟨j,t,rfl,r,hj,q⟩
  ·rcases S with rfl | ⟨k,rfl⟩
   ·rw[q07 rfl]
    exact⟨_,aZ.of a,_,L,_,aZ.of a,_,J,_,aZ.of a,_,I,_,aZ.of a,_,G,g,B,x,u,D,y,m,p,rfl,gr,ok,.inr ⟨T,λo n=>⟨yaa,rfl,_,_,ya4,und,λc b=>l _ _ _ _ q n b rfl⟩⟩⟩
   ·rw[q06 (λh=>nomatch h)]
    exact⟨_,aZ.of a,_,L,_,aZ.of a,_,J,_,aZ.of a,_,I,_,aZ.of a,_,G,g,B,x,u,D,y,m,p,k,rfl,gr,ok,.inr ⟨T,λo n=>⟨yaa,rfl,_,_,ya4,und,λc b=>l _ _ _ _ q n b rfl⟩⟩⟩
  ·rw[q06 (λh=>nomatch h)]
   exact⟨_,aZ.of a,_,L,_,aZ.of a,_,J,_,aZ.of a,_,I,_,aZ.of a,_,G,g,B,x,u,D,y,m,p,k,rfl,gr,ok,.inl ⟨r,λj t e U=>by
    have:=(My.mp U).1;rw[bU ok.gc (r.row (by have:=ok.m6;omega))]at this;omega,λ_ o n=>⟨yab,rfl,_,_,yba,und2,λc b=>l _ _ _ _ q n b rfl⟩⟩⟩
  ·rw[q06 (λh=>nomatch h)]
   refine⟨_,aZ.of a,_,L,_,aZ.of a,_,J,_,aZ.of a,_,I,_,aZ.of a,_,G,g,B,x,u,D,y,m,p,(j:Int),rfl,gr,ok,.inl ⟨r,λj' t' e U v M n hv=>h1 _ _ ?_,λZ=>?_⟩⟩
   ·ext
    exact q _ n
   ·have:=(My.mp hj).1
    rw[bU ok.gc (r.row (by have:=ok.m6;omega))]at this;omega
abbrev ip:Stmt:=ij 72
inductive jY(CU_:Addr)(vs:List V)(H:Hp)(Q:VK)(_E:XK):Prop
 |mk (ea:Addr) (_:vs=[.ref ea]) (_:Fq H ea CU_) (_:Q (.bl true) H)
theorem rD:aw ["_law_error_here"] ["_law_error_here"] (aj ip):=by walk_at "c"
theorem qo{f yab yaa yaf:Addr}(F:cF K "_law_no_number" "_law_no_number" ip f fd)(nb:NB mg)(yaj:mg "NoNumber"=some (.ref yab))(yau:mg "NoName"=some (.ref yaa))(yax:mg "TooMany"=some (.ref yaf))(xt:W.XTy K yab)
  (k1:W.kitOne K (.ref yab) (.ref yab)=some true) (k2:W.kitOne K (.ref yab) (.type "ValueError")=some true) (k3:W.kitOne K (.ref yab) (.ref yaa)=some false) (k4:W.kitOne K (.ref yab) (.ref yaf)=some false):↑aS 1 f fd ["_law_error_here"] (jY yab):=by
 have sc:=rD;walk_at "f"
 ·obtain⟨b,rfl,a,q⟩:=h
  refine⟨_,(af (bC (PW.pt (iO (gU (gO (av bA rfl nb.isinstance bO (aa (al 0) (aa (b_ (v:=.ref _) rfl yaj rfl) ac))) λ_=>rfl)) (fH (gU (gO (av bA rfl nb.isinstance bO (aa (al 0) (aa (FQ (v:=.ty "ValueError") rfl nb.ValueError sH rfl) ac))) λ_=>rfl)))))
   (ai (aF AW))
   aL)
   (ai (aF (lY (v8 (av bA rfl nb.isinstance bO (aa (al 0) (aa (b_ (v:=.ref _) rfl yau rfl) ac)))) (qV (v8 (av bA rfl nb.isinstance bO (aa (al 0) (aa (b_ (v:=.ref _) rfl yax rfl) ac))))))))),?_⟩
  ext;refine .inr (.inl ⟨b,yab,_,true,rfl,rfl,a,xt,k1,true,rfl,?_⟩);rw[q06 nofun];refine .inr (.inl ⟨b,yab,_,true,rfl,rfl,a,xt,k2,true,rfl,?_⟩);rw[q06 nofun];refine .inr (.inl ⟨b,yab,_,false,rfl,rfl,a,xt,k3,false,rfl,?_⟩);rw[q07 rfl];exact .inr (.inl ⟨b,yab,_,false,rfl,rfl,a,xt,k4,false,rfl,q⟩)
abbrev kq:Stmt:=ij 73
inductive nu(CN_:Addr)(vs:List V)(H:Hp)(Q:VK)(_E:XK):Prop
 |mk (ea:Addr) (_:vs=[.ref ea]) (_:Fq H ea CN_) (_:Q (.bl true) H)
theorem uR:aw ["_law_error_here"] ["_law_error_here"] (aj kq):=by walk_at "c"
theorem wb{f yab yaa yaf:Addr}(F:cF K "_law_no_name" "_law_no_name" kq f fd)(nb:NB mg)(yaj:mg "NoNumber"=some (.ref yab))(yau:mg "NoName"=some (.ref yaa))(yax:mg "TooMany"=some (.ref yaf))(xt:W.XTy K yaa)
  (k1:W.kitOne K (.ref yaa) (.ref yaa)=some true) (k2:W.kitOne K (.ref yaa) (.ref yab)=some false) (k3:W.kitOne K (.ref yaa) (.ref yaf)=some false):↑aS 1 f fd ["_law_error_here"] (nu yaa):=by
 have sc:=uR;walk_at "f"
 ·obtain⟨b,rfl,a,q⟩:=h
  refine⟨_,(ai (aF (lY (av bA rfl nb.isinstance bO (aa (al 0) (aa (b_ (v:=.ref _) rfl yau rfl) ac))) (lY (v8 (av bA rfl nb.isinstance bO (aa (al 0) (aa (b_ (v:=.ref _) rfl yaj rfl) ac)))) (qV (v8 (av bA rfl nb.isinstance bO (aa (al 0) (aa (b_ (v:=.ref _) rfl yax rfl) ac))))))))),?_⟩;ext;refine .inr (.inl ⟨b,yaa,_,true,rfl,rfl,a,xt,k1,true,rfl,?_⟩);rw[q07 rfl];refine .inr (.inl ⟨b,yaa,_,false,rfl,rfl,a,xt,k2,false,rfl,?_⟩);rw[q07 rfl];exact .inr (.inl ⟨b,yaa,_,false,rfl,rfl,a,xt,k3,false,rfl,q⟩)
abbrev vi:Stmt:=ij 76
inductive xE(K:W.Frag)(R:RC)(CG CF:Addr)(vs:List V)(H:Hp)(Q:VK)(_E:XK):Prop
 |mk (g dg:Addr) (sg st:Nw) (as:NA) (rs:Yaa) (m:Nat) (v:V) (t:aQ) (y:Bh) (_:vs=[.ref g,v]) (_:dB R H CG dg g sg st as rs) (_:oY st rs m) (_:(∀r∈rs,fj r)) (_:cE H t.d v) (_:t.dep<=60) (_:cf rs t [] none=some y) (_:∀tp p H',az H H'->H' tp=some (.tup [.str y.1,.ref p])->aZ K H' p (AG y.2)->Q (.ref tp) H')
theorem Ds:aw ["_law_grammar_here","_law_tree","_law_error_here","e"] ["_law_grammar_here","_law_tree"] (aj vi):=by walk_at "c"
theorem D8{f yae yac yab:Addr}{bmD:Nz}{nD:String}(F:cF K "_law_why" "_law_why" vi f fd)(nb:NB mg)(yaL:mg "QuiltError"=some (.ref yae))(yar:mg "NoTree"=some (.ref yac))(yaj:mg "NoNumber"=some (.ref yab))
  (yaJ:ju K yae bmD nD) (hbase:bmD.contains (.type "BaseException")=true) {bmN:Nz} {nN:String} (ya0:ju K yac bmN nN) (und:oS K yac yae) (xt:W.XTy K yac) (xh:W.hasDictIn K yac=true) (xw:aq K yac "why")
  (k1:W.kitOne K (.ref yac) (.ref yac)=some true) (k2:W.kitOne K (.ref yac) (.ref yab)=some false)
  (yaF:dU P w K mg base (bG P w) 90 "number_of" ["grammar","tree"] (jj K R CG yac)):↑aS 91 f fd ["_law_grammar_here","_law_tree"] (xE K R CG yac):=by
 have sc:=Ds;walk_at "f"
 ·obtain⟨g,O,C,B,S,G,m,v,t,y,rfl,gr,ok,k,J,M,I,q⟩:=h
  have hu:=hr.units;refine⟨_,(af (q01 2 sc.nd iu)
   (af (yP (i:=3) sc.nd rfl rfl (zC yaF (hr.mono nofun) rfl (aa (al 0) (aa (al 1) ac))) rfl rfl rfl yaL yaJ hbase (λa=>(ai (q01 2 sc.nd (al 3)))))
   (af (bC (PW.pt (iO (gU (gO (av bA rfl nb.isinstance bO (aa (al 2) (aa (b_ (v:=.ref _) rfl yar rfl) ac))) λ_=>rfl)) (fH (gO (av bA rfl nb.isinstance bO (aa (al 2) (aa (b_ (v:=.ref _) rfl yaj rfl) ac))) λ_=>rfl))))
   (ai (aF iu))
   aL)
   (ai (aF (Gu (al 2) rfl)))))),?_⟩
  symm;refine h1 _ _ ?_;grind;refine⟨g,O,C,B,S,G,m,v,t,rfl,gr,ok,k,J,M,.inr ⟨y,I,λx p d e D n j L=>⟨yac,rfl,_,_,ya0,und,λa l=>h1 _ _ ?_⟩⟩⟩;clear h1;have o:ay e a (xo a (.ref yac) (some d)) a=some (xo a (.ref yac) (some d)):=ad;have b:az e (ay e a (xo a (.ref yac) (some d))):=ae l;have c:=q x p _ (D.trans b) (b _ _ j) (b.sqT L);have r:=b _ _ n;generalize ay e a (xo a (.ref yac) (some d))=H2 at o b c r ⊢;ext;have u:Fq H2 a yac:=.inr ⟨d,_,o,r⟩;refine .inr (.inl ⟨a,yac,_,true,rfl,rfl,u,xt,k1,true,rfl,?_⟩);rw[q06 nofun];refine .inr (.inl ⟨a,yac,_,false,rfl,rfl,u,xt,k2,false,rfl,?_⟩);rw[q06 nofun];exact⟨_,_,o,_,r,_,rfl,xt,xh,xw,c⟩
def Iz(K:W.Frag)(H:Hp)(v:V)(y:Bh):Prop:=∃tp p,v=.ref tp/\H tp=some (.tup [.str y.1,.ref p])/\aZ K H p (AG y.2)
theorem qK{α β:Type}(pr:α->Bool)(g:α->β):∀l:List α,l.filterMap (λz=>if pr z=true then some (g z) else none)=(l.filter pr).map g
 | []=>rfl
 |x::l=>by
  rw[q0Q,List.filter_cons];cases e:pr x
  ·simp[qK pr g l]
  ·simp[qK pr g l]
theorem BX(p:bN):(aH p).all eM=true:=by
 have a:aH p=(p.map tx).map V.str:=by unfold aH;rw[MN];rfl
 rw[a];exact Ba _
def pe:List (List Nat):=[[81],[81,81],[81,81,81],[81,81,81,81],[90,81]]
theorem EV:[V.str (Str.ofString "Q"),V.str (Str.ofString "QQ"),V.str (Str.ofString "QQQ"),V.str (Str.ofString "QQQQ"),V.str (Str.ofString "ZQ")]=pe.map λz=>V.str (tx z):=by
 have h1:Str.ofString "Q"=tx [81]:=by decide +kernel
 have h2:Str.ofString "QQ"=tx [81,81]:=by decide +kernel
 have c:Str.ofString "QQQ"=tx [81,81,81]:=by decide +kernel
 have b:Str.ofString "QQQQ"=tx [81,81,81,81]:=by decide +kernel
 have a:Str.ofString "ZQ"=tx [90,81]:=by decide +kernel
 rw[h1,h2,c,b,a];rfl
theorem DY{p:bN}(hp:p.length=4):∃z0 zr,pe.filter (λz=>decide (z∉p))=z0::zr:=by
 cases e:pe.filter (λz=>decide (z∉p)) with
 |cons z zr=>exact⟨z,zr,rfl⟩
 |nil=>
  exfalso;have b:∀x∈pe,x∈p:=λx a=>by
   have:=List.filter_eq_nil_iff.mp e x a
   simpa using this
  have:=mV (l:=pe) (L:=p) nofun b;rw[hp]at this;exact q0N this nofun
theorem GP:∀{is:Nw},iF K H (is.map fun(i:Nat)=>Dt.int (i:Int)) (AG is)
 | []=>by unfold AG;rw[List.map_nil,List.map_nil];unfold iF;rfl
 |i::is=>by
  unfold AG;rw[M5,M5];unfold iF;exact⟨_,_,rfl,by unfold pB;rfl,GP⟩
theorem Ah:∀(is:Nw),Dt.deps (is.map fun(i:Nat)=>Dt.int (i:Int))=0
 | []=>by rw[List.map_nil];unfold Dt.deps;rfl
 |i::is=>by
  rw[M5];unfold Dt.deps;rw[Ah is];unfold Dt.dep
  rfl
theorem Dh(h:Iz K H v y):pB K H (.tup [.str y.1,.tup (y.2.map fun(i:Nat)=>Dt.int (i:Int))]) v:=by
 obtain⟨a,p,rfl,h1,h2⟩:=h;unfold pB;refine⟨a,_,rfl,aZ.of h1,?_⟩;unfold iF;refine⟨_,_,rfl,by unfold pB;rfl,?_⟩;unfold iF;refine⟨_,_,rfl,?_,by unfold iF;rfl⟩;unfold pB;exact⟨p,_,rfl,h2,GP⟩
abbrev uw:Stmt:=ij 77
inductive uM(K:W.Frag)(vs:List V)(H:Hp)(Q:VK)(_E:XK):Prop
 |mk (a:Addr) (ns:List Int) (_:vs=[.ref a]) (_:aW K H a (ns.map V.int)) (_:∀H',Q (.bl true) H')
theorem HF:aw ["_law_script","_law_names_here","_law_drawn","_law_rules","_law_stock","_law_grammar_here","_law_far","_law_none","_law_one","_law_shape","_law_many","_law_spoilt_here"] ["_law_script"] (aj uw):=by walk_at "c"
theorem Ie{f yaa yab yac:Addr}(F:cF K "law" "law" uw f fd)(nb:NB mg)(zwa:↑dU 1 "_law_cell" ["_law_script","_law_k"] (oq K))(zUd:↑dU 2 "_law_cells" ["_law_script","_law_begin","_law_most"] (rK K))(zVd:↑dU 1 "_law_signs" ["_law_cell_here","_law_most"] qg)(zWd:↑dU 1 "_law_names" ["_law_cell_here"] qY)
  (zXd:↑dU 4 "_law_grown" ["_law_cells_here","_law_drawn"] qU) (zSb:↑dU 7 "_law_grammar" ["_law_signs_here","_law_start","_law_rules"] (nF R CG)) (ybk:dU P w K mg base (bG P w) 73 "count_trees" ["grammar","name","rows","columns","cost"] (jZ R CG yaa)) (yaF:dU P w K mg base (bG P w) 90 "number_of" ["grammar","tree"] (jj K R CG yac))
  (zTa:↑dU 109 "_law_error" ["_law_grammar_here","_law_shape","_law_k"] (se R CG yaa yab)) (zub:↑dU 1 "_law_no_number" ["_law_error_here"] (jY yab)) (zqb:↑dU 1 "_law_no_name" ["_law_error_here"] (nu yaa)) (zxa:↑dU 61 "_law_spoilt_within" ["_law_tree","_law_cell_here","_law_many"] (dZ 60)) (zIf:↑dU 91 "_law_why" ["_law_grammar_here","_law_tree"] (xE K R CG yac)):↑aS 110 f fd ["_law_script"] (uM K):=by
 have sc:=HF;walk_at "f"
 ·obtain⟨a,ns,rfl,ha,q⟩:=h
  have hu:=hr.units;refine⟨_,(af (aD (i:=1) sc.nd rfl (Or.inr rfl) (aJ zWd (hr.mono nofun) rfl ba (aa (aJ zwa (hr.mono nofun) rfl ba (aa (al 0) (bj ac))) ac)))
   (af (q01 2 sc.nd (aG (aa (aJ zVd (hr.mono nofun) rfl ba (aa (aJ zwa (hr.mono nofun) rfl ba (aa (al 0) (bj ac))) (bj ac))) (aa (al 1) (bj (bj (bj ac)))))))
   (af (yZ (aJ zXd (hr.mono nofun) rfl ba (aa (aJ zUd (hr.mono nofun) rfl ba (aa (al 0) (bj (bj ac)))) (aa (al 2) ac))) (fB (n:=2) rfl (aM (q02 3 sc.nd) (aM (q02 4 sc.nd) cY))))
   (af (q01 5 sc.nd (aJ zSb (hr.mono nofun) rfl ba (aa (aE aC (al 2) ah (λ_ _=>rfl)) (aa (aE bg (al 1) ah (λ_ _=>rfl)) (aa (al 3) ac)))))
   (af (q01 6 sc.nd (au (bc.m1 br) (au (bc.m1 bR) (aJ zwa (hr.mono nofun) rfl ba (aa (al 0) (bj ac))) ah) (au (bc.m1 D') ah ah)))
   (af (q01 7 sc.nd (aE bg (cH ["_law_one"] [1] rfl (bE.of (by kernel_rfl)) (by kernel_rfl) (cK (bK (bh (bh (bh (bh (bh ac)))))))
    (λ_ _ _ _=>(aB (i:=0) (by show(["_law_one","_law_names_here"]:List Str).Nodup;decide +kernel) rfl (Or.inl rfl))) (λ_ _ _ _=>(Ga (aK (sw (K:=K) rfl) (al 0) (al 1) (by with_unfolding_all rfl)))) (λ_ _ _ _=>(al 0))) ah (λ_ _=>rfl)))
   (af (bC (gU (gO (aJ zqb (hr.mono nofun) rfl ba (aa (aJ zTa (hr.mono nofun) rfl ba (aa (al 5) (aa (aG (aa (al 7) (bj (bj (bj ac))))) (aa (au (bc.m0 cX) (AC vE ah) (al 6)) ac)))) ac)) λ_=>rfl))
   (ai (aF AW))
   aL)
   (af (bC (gU (gO (aJ zqb (hr.mono nofun) rfl ba (aa (aJ zTa (hr.mono nofun) rfl ba (aa (al 5) (aa (aG (aa (al 7) (bj (bj (bj ac))))) (aa iu ac)))) ac)) λ_=>rfl))
   (ai (aF AW))
   aL)
   (af (q01 8 sc.nd (aE bg (al 4) (au (bc.m1 br) (aJ zwa (hr.mono nofun) rfl ba (aa (al 0) (bj ac))) (av bi rfl nb.len aV (aa (al 4) ac))) (λ_ _=>rfl)))
   (af (q01 9 sc.nd (aG (aa (aE aC (al 8) ah (λ_ _=>rfl)) (aa (av bi rfl nb.len aV (aa (aE aC (al 8) ah (λ_ _=>rfl)) ac)) (aa (av bb rfl nb.len aV (aa (aE bg (aE aC (al 8) ah (λ_ _=>rfl)) ah (λ_ _=>rfl)) ac)) (aa (aE aC (al 8) ah (λ_ _=>rfl)) ac))))))
   (af (q01 10 sc.nd (aJ (CX:=bG P w) ybk (hr.mono nofun) rfl bt (aa (al 5) (aa (aE aC (al 9) ah (λ_ _=>rfl)) (aa (aE aC (al 9) ah (λ_ _=>rfl)) (aa (aE aC (al 9) ah (λ_ _=>rfl)) (aa (aE aC (al 9) ah (λ_ _=>rfl)) ac)))))))
   (af (q01 7 sc.nd (aE bg (bK (aa (al 10) (aa (au (bc.m0 bF) (al 10) (al 6)) (aa (AC vE ah) (aa (au (bc.m0 cX) (AC vE ah) (al 6)) ac))))) (au (bc.m1 br) (aJ zwa (hr.mono nofun) rfl ba (aa (al 0) (bj ac))) ah) (λ_ _=>rfl)))
   (af (bC (PW.pt (iO (gU (gO (aJ zub (hr.mono nofun) rfl ba (aa (aJ zTa (hr.mono nofun) rfl ba (aa (al 5) (aa (al 9) (aa (al 7) ac)))) ac)) λ_=>rfl)) (fH (aK v4 (aJ zTa (hr.mono nofun) rfl ba (aa (al 5) (aa (al 9) (aa (au (bc.m0 cX) (al 10) ah) ac)))) iu (aN _)))))
   (ai (aF AW))
   aL)
   (af (q01 11 sc.nd (aJ zxa (hr.mono nofun) rfl ba (aa (aE aC (al 8) ah (λ_ _=>rfl)) (aa (aJ zwa (hr.mono nofun) rfl ba (aa (al 0) (bj ac))) (aa (av bi rfl nb.len aV (aa (al 3) ac)) ac)))))
   (ai (aF (lY (kK (HS hu) (aJ zIf (hr.mono nofun) rfl ba (aa (al 5) (aa (aE aC (al 11) ah (λ_ _=>rfl)) ac))) (aE aC (al 11) ah (λ_ _=>rfl)) (aN _)) (qV (kK (bc.m0 tS) (aJ (CX:=bG P w) yaF (hr.mono nofun) rfl bt (aa (al 5) (aa (aE aC (al 8) ah (λ_ _=>rfl)) ac))) (al 10) (aN _)))))))))))))))))))),?_⟩
  symm;refine⟨a,ns,1,rfl,ha,⋯,λc1=>⟨c1,rfl,λlb p H5 l1 hb f9 e6 s5=>h1 _ _ ?_⟩⟩;grind;refine⟨a,ns,0,rfl,s5.seq ha,⋯,λc0=>⟨c0,rfl,λO H6 d6 s6=>⟨ak nofun,λtd f7=>h1 _ _ ?_⟩⟩⟩;clear h1;have s7:=ae (o:=.tup [V.str (tx O),V.ref lb,V.int 2,V.int 3,V.int 9]) f7;have b4:ay H6 td (.tup [V.str (tx O),V.ref lb,V.int 2,V.int 3,V.int 9]) td=some (.tup [V.str (tx O),V.ref lb,V.int 2,V.int 3,V.int 9]):=ad;have a9:=s7 _ _ (s6 _ _ hb);have a8:=(s5.trans s6).trans s7;generalize ay H6 td (.tup [V.str (tx O),V.ref lb,V.int 2,V.int 3,V.int 9])=H7 at a8 b4 a9 ⊢;clear s7 s6 s5 hb l1 f7;symm;refine⟨a,ns,5,12,rfl,a8.seq ha,⋯,⋯,⋯,λlc cs H8 g5 g6 l4 cs12 s8=>⟨lc,td,lb,cs,p,O,2,3,9,rfl,g6,l4,⋯,s8 _ _ b4,s8 _ _ a9,f9,e6,d6,nofun,nofun,nofun,nofun,λtp lr ls ts l zs H9 f6 g hrl i9 hzl' s9=>⟨tp,rfl,_,aZ.of f6,rfl,_,_,rfl,_,_,rfl,rfl,h1 _ _ ?_⟩⟩⟩;clear h1;have l2:l.length<=12:=by omega
  have i1:=(a8.trans s8).trans s9;have h3:=s9 _ _ (s8 _ _ b4);have g8:=s9 _ _ (s8 _ _ a9);clear s9 s8 a8 f6 g5 g6 b4 a9;have B:∀r∈l,fj r:=λr hr=>(g.ro r hr).good;have f8:=g.ro;have gc:=rV B;have g2:p[0]?=some (p[0]'⋯):=Mx ⋯;have S:p[0]'⋯∈p:=MH _;generalize p[0]'⋯=st at g2 S;have l5:gZ (aH p) 0=some (V.str (tx st)):=(show gZ _ ((0:Nat):Int)=_ from aU (by unfold aH;rw[MC,g2];rfl));have hsl:=mG d6;have hn0:=kS (e6 _ S);have mk:io O st l=none:=BI d6 S e6 ⋯ ⋯ f8;have M:oY st l 6:=⟨gc,λq hq=>(B q hq).good.t0,λp a b c=>Nd (IK gc l2 a b ⋯) nofun,nofun,⋯,by
   have:=mk;unfold io at this
   split at this
   ·cases this
   ·split at this
    ·cases this
    ·omega⟩
  symm;refine⟨_,aZ.of h3,_,rfl,_,aW.of g8,_,l5,lr,O,st,ts,l,rfl,g.rows,B,⋯,⋯,⋯,mk,λg0 d0 a0 h7 G0 a3=>h1 _ _ ?_⟩;clear h1;have h8:=a3 _ _ g.st;have h2:=a3 _ _ g8;have c2:=i1.trans a3;symm;refine⟨a,ns,3,rfl,c2.seq ha,⋯,λc3=>⟨_,rfl,Dy,nofun,h1 _ _ ?_⟩⟩;clear h1;obtain⟨u,g7,hfar0⟩:∃u:Int,c3/4%10 ^ Int.toNat 30=u/\0<=u:=⟨_,rfl,Nm _ nofun⟩;rw[g7];obtain⟨Z,yr,f5⟩:=DY f9;have a5:Z∉p:=by
   have:Z∈pe.filter (λz=>decide (z∉p)):=by rw[f5];exact q0B
   simpa using(List.mem_filter.mp this).2
  have nn:tx Z∉(bf (tx st) l).map (·.1):=λhh=>by
   rcases(nh _ _ _).mp hh with e | ⟨r,hr,e⟩
   ·exact a5 (by rw[dW e];exact S)
   ·unfold GJ at hr
    obtain⟨q,hq,rfl⟩:=Ng.mp hr;have ro:=f8 q hq;rcases e with e | e
    ·exact a5 (by rw[dW e];exact ro.n)
    ·obtain⟨y,hy,e⟩:=Ng.mp e
     have j1:y∈p:=by
      have h4:=ro.good.k4;obtain⟨t_,v⟩:=q;have o1:=ro.o1;have o2:=ro.o2;have:t_=0\/t_=1\/t_=2\/t_=3:=by simp at h4;omega
      rcases this with rfl | rfl | rfl | rfl
      ·simp[aO]at hy
      ·rcases(show y=v.o1\/y=v.o2 by simpa[aO]using hy) with rfl | rfl
       ·exact o1
       ·exact o2
      ·rcases(show y=v.o1\/y=v.o2 by simpa[aO]using hy) with rfl | rfl
       ·exact o1
       ·exact o2
      ·rw[show y=v.o1 by simpa[aO]using hy];exact o1
     exact a5 (by rw[<- dW e];exact j1)
  symm;refine⟨ak nofun,λpc k1=>?_⟩;have d5:=ae (o:=.lst [V.str (Str.ofString "Q"),V.str (Str.ofString "QQ"),V.str (Str.ofString "QQQ"),V.str (Str.ofString "QQQQ"),V.str (Str.ofString "ZQ")]) k1;have e7:ay h7 pc (.lst [V.str (Str.ofString "Q"),V.str (Str.ofString "QQ"),V.str (Str.ofString "QQQ"),V.str (Str.ofString "QQQQ"),V.str (Str.ofString "ZQ")]) pc=some (.lst (pe.map λz=>V.str (tx z))):=by rw[ad,EV]
  generalize ay h7 pc (.lst [V.str (Str.ofString "Q"),V.str (Str.ofString "QQ"),V.str (Str.ofString "QQQ"),V.str (Str.ofString "QQQQ"),V.str (Str.ofString "ZQ")])=H11 at d5 e7 ⊢;have h0:=d5 _ _ h2;refine⟨⟨_,aW.of e7⟩,?_⟩;refine fF (as:=pe) (emb:=λz=>V.str (tx z)) (f:=λz=>if decide (z∉p)=true then some (V.str (tx z)) else none) (λσ=>∃x,σ=[x,some (V.ref lb)]) ⟨_,rfl⟩ (λH' s'=>aW.of (s' _ _ e7)) nofun ?_ ?_
  ·rintro i x hx σ H' M1 M0 ⟨y,rfl⟩ s' i3 i4
   ext;have k8:IN (V.str (tx x)) (aH p)=decide (x∈p):=by
    have e0:aH p=(p.map tx).map V.str:=by unfold aH;rw[MN];rfl
    rw[e0,wO]
    by_cases C:x∈p
    ·rw[q09 C,q09 (List.mem_map_of_mem C)]
    ·rw[q08 C,q08 (λh=>by obtain⟨y,hy,e⟩:=Ng.mp h;exact C (by rw[<- dW e];exact hy))]
   refine⟨lb,_,rfl,.inl (aW.of (s' _ _ h0)),rfl,BX p,_,rfl,?_⟩;rw[k8]
   by_cases C:x∈p
   ·rw[q09 C,q06 nofun]
    exact i4 _ _ (by rw[q06 (by simpa using C)]) s' ⟨_,rfl⟩
   ·rw[q08 C,q07 nofun]
    exact i3 _ _ _ (by rw[q07 (by simpa using C)]) s' ⟨_,rfl⟩
  intro m2 i0 lq k2;rw[qK,f5];have a7:=(d5.trans i0).trans (ae (o:=.lst ((Z::yr).map λz=>V.str (tx z))) k2);refine⟨_,aW.of ad,_,(show gZ ((Z::yr).map λz=>V.str (tx z)) ((0:Nat):Int)=some (V.str (tx Z)) from aU rfl),h1 _ _ ?_⟩;clear h1;generalize ay m2 lq (.lst ((Z::yr).map λz=>V.str (tx z)))=H13 at a7 ⊢;symm;refine⟨ak nofun,λq1 e5=>?_⟩;have J:=ae (o:=.tup [V.str (tx Z),V.int 1,V.int 1,V.int 1]) e5;refine⟨g0,d0,q1,O,st,a0,l,6,(Z,1,1,1),.int (-1-u),rfl,ad,G0.up (a7.trans J),M,.inl ⟨.inr ⟨_,rfl⟩,nn,λea H14 a2 xr=>⟨ea,rfl,xr,true,rfl,?_⟩⟩⟩;rw[q06 nofun];refine h1 _ _ ?_;clear h1;have a2:=a7.trans (J.trans a2);clear a7 J;symm;refine⟨ak nofun,λq1 e5=>?_⟩;have J:=ae (o:=.tup [V.str (tx Z),V.int 1,V.int 1,V.int 1]) e5;refine⟨g0,d0,q1,O,st,a0,l,6,(Z,1,1,1),.non,rfl,ad,G0.up (a2.trans J),M,.inl ⟨.inl rfl,nn,λea h6 L xr=>⟨ea,rfl,xr,true,rfl,?_⟩⟩⟩;rw[q06 nofun];refine h1 _ _ ?_;clear h1;have L:=a2.trans (J.trans L);clear a2 J;have G0:=G0.up L;have e9:=L _ _ h8;have a4:=c2.trans L;symm;have hzl:0<zs.length:=Nat.pos_of_ne_zero λe=>i9 (Nf.mp e);have hlm:(zs.map λz=>V.ref z.a).length=zs.length:=MA _;refine⟨a,ns,2,rfl,a4.seq ha,⋯,λc4=>⟨_,aW.of e9,_,rfl,⋯,_,aW.of e9,?_⟩⟩;obtain⟨z,f4,c9⟩:∃z∈zs,gZ (zs.map λz=>V.ref z.a) (c4%((zs.map λz=>V.ref z.a).length:Nat))=some (V.ref z.a):=by
   obtain⟨v,hv,e⟩:=zx (xs:=zs.map λz=>V.ref z.a) (Nm c4 (show((zs.map λz=>V.ref z.a).length:Int)≠0 by omega)) (Nn _ ⋯);obtain⟨z,hz,rfl⟩:=Ng.mp hv;exact⟨z,hz,e⟩
  have za:=((g.at_ z f4).up a3).up L;have zg:=g.good z f4;obtain⟨rr,cc,I⟩:=zg.sd;have zp:fV z.x.p rr cc:=I.pic B;have rr6:rr<=6:=zp.r6;have cc6:cc<=6:=zp.c6;have zlow:((z.x.t.cnt:Nat):Int)<=z.x.c:=(I.low B).2;have zcnt:=z.x.t.cnt1;have zdep:=z.x.t.dep_cnt;have zc9:z.x.c<=9:=zg.le;refine⟨_,c9,h1 _ _ ?_⟩;clear h1 c9;have i2:tx z.x.nm∈(bf (tx st) l).map (·.1):=by
   obtain⟨nn,q0,ps,_,j7,d7,_⟩:=I.node B;have d7:q0.2.n=z.x.nm:=d7;rw[<- d7];exact(nh _ _ _).mpr (.inr ⟨(tx q0.2.n,(aO q0.1 q0.2).map tx),by unfold GJ;exact List.mem_map_of_mem (f:=λr:Nat×RV=>(tx r.2.n,(aO r.1 r.2).map tx)) (MD j7),.inl rfl⟩)
  have Y:qd st l 6 (z.x.nm,rr,cc,z.x.c):=⟨i2,zp.r0,zp.r6,zp.c0,zp.c6,by show -8<=z.x.c;omega,by show z.x.c<=16;omega⟩;have ok:=Y.row nofun;have T:=bU gc ok;have g3:z.x.t∈RT l (z.x.nm,rr,cc,z.x.c):=I.mem B _ (MW _) (by show z.x.c<=16;omega);have g4:1<=CN l (z.x.nm,rr,cc,z.x.c):=by
   rw[<- T];exact List.length_pos_of_mem g3
  obtain⟨zt,zv,zl,zn⟩:=za;obtain⟨k3,l0⟩:=fR zp.rc zp.r0;symm;refine⟨_,aZ.of zt,_,rfl,_,aZ.of zt,_,rfl,_,rfl,_,aW.of zl,_,aZ.of zt,_,rfl,_,rfl,_,aW.of zl,_,(show gZ _ ((0:Nat):Int)=_ from aU (bp k3)),_,rfl,by rw[aA];exact ak ⋯,_,aZ.of zt,_,rfl,ak nofun,λsh j6=>h1 _ _ ?_⟩;clear h1;rw[ar,zp.rc.1,aA,l0];obtain⟨m,g1⟩:∃m:TR,m=(z.x.nm,rr,cc,z.x.c):=⟨_,rfl⟩;have h5:[V.str (tx z.x.nm),V.int (rr:Int),V.int (cc:Int),V.int z.x.c]=b5 m:=by rw[g1];rfl
  rw[<- g1]at g4 T ok Y I g3;rw[h5];have d3:=ae (o:=.tup (b5 m)) j6;have U:ay h6 sh (.tup (b5 m)) sh=some (.tup (b5 m)):=ad;generalize ay h6 sh (.tup (b5 m))=H16 at d3 U ⊢;have b0:gZ (b5 m) 0=some (V.str (tx m.1)):=aU (j:=0) rfl;have b1:gZ (b5 m) 1=some (V.int (m.2.1:Int)):=aU (j:=1) rfl;have b2:gZ (b5 m) 2=some (V.int (m.2.2.1:Int)):=aU (j:=2) rfl;have b3:gZ (b5 m) 3=some (V.int m.2.2.2):=aU (j:=3) rfl;symm;refine⟨_,aZ.of U,_,b0,_,aZ.of U,_,b1,_,aZ.of U,_,b2,_,aZ.of U,_,b3,g0,d0,O,st,a0,l,6,m,rfl,G0.up d3,M,.inl ⟨Y,λl6 a1=>h1 _ _ ?_⟩⟩;clear h1;have h9:=a1 _ _ U;have a1:=d3.trans a1;symm;refine⟨ak nofun,λpl k0=>?_⟩;have sl:=ae (o:=.lst [V.int (CN l m:Nat),V.int ((CN l m:Nat)+u),V.int (-1),V.int (-1-u)]) k0;refine⟨a,ns,3,rfl,((a4.trans a1).trans sl).seq ha,⋯,λc5=>⟨_,rfl,_,aW.of ad,?_⟩⟩;obtain⟨j4,hj4,l3⟩:=Gv c5 (n:=4) nofun;obtain⟨kk,k6,k5⟩:∃kk:Int,gZ [V.int (CN l m:Nat),V.int ((CN l m:Nat)+u),V.int (-1),V.int (-1-u)] (c5%4)=some (V.int kk)/\(kk<0\/(CN l m:Int)<=kk):=by
   have e4:c5%4=(j4:Int):=l3;have:j4=0\/j4=1\/j4=2\/j4=3:=by omega
   rw[e4];rcases this with rfl | rfl | rfl | rfl
   ·exact⟨_,aU rfl,.inr (Int.le_refl _)⟩
   ·exact⟨_,aU rfl,.inr ⋯⟩
   ·exact⟨_,aU rfl,.inl nofun⟩
   ·exact⟨_,aU rfl,.inl ⋯⟩
  refine⟨_,k6,h1 _ _ ?_⟩;clear h1;have d2:=sl _ _ h9;have a6:=a1.trans sl;generalize ay l6 pl (.lst [V.int (CN l m:Nat),V.int ((CN l m:Nat)+u),V.int (-1),V.int (-1-u)])=H18 at a6 d2 ⊢;symm;refine⟨g0,d0,sh,O,st,a0,l,6,m,.int kk,rfl,d2,G0.up a6,M,.inr (.inl ⟨kk,rfl,Y,k5,λea H19 d4 xr=>⟨ea,rfl,xr,?_⟩⟩)⟩;refine⟨true,rfl,?_⟩;rw[q06 nofun];obtain⟨tl,j2⟩:∃tl,(RT l m)[CN l m-1]?=some tl:=⟨_,Mx (by rw[T];omega)⟩;refine⟨g0,d0,sh,O,st,a0,l,6,m,_,rfl,d4 _ _ d2,G0.up (a6.trans d4),M,.inr (.inr ⟨CN l m-1,tl,by rw[show((CN l m-1:Nat):Int)=(CN l m:Int)-1 by omega],Y,j2,λH20 G=>?_⟩)⟩;rw[q06 (λh=>h rfl)];refine h1 _ _ ?_;clear h1;have G:=a6.trans (d4.trans G);have e8:=G _ _ zt;have f3:=a4.trans G;have m6:=G0.up G;have d1:=g.rows.up ((a3.trans L).trans G);symm;refine⟨_,aZ.of e8,_,rfl,a,ns,4,rfl,f3.seq ha,⋯,λc6=>⟨_,aW.of d1.1,z.v,c6,l,z.x.t,by rw[MA,d1.2.1],zv.up (dX.of G) _,⋯,⋯,λtp t' y H21 f0 sp bd yl=>h1 _ _ ?_⟩⟩;clear h1;obtain⟨bv,wp,pp,e1,e2,e3,e4⟩:=sp;have k9:cf l z.x.t [] none=none:=I.gr.noC z.x.t rfl [] none (.inl rfl);have j3:cf l t' [] none=some y:=by rw[bd.flt [] none k9];rfl
  have bdd:=bd.dep;ext;refine⟨_,aZ.of e1,_,rfl,g0,d0,O,st,a0,l,6,bv,t',y,rfl,m6.up f0,M,B,e4,⋯,j3,λtq pq H22 D f1 f2=>⟨_,aZ.of (D _ _ e1),_,rfl,.inl ⟨[.str y.1,.tup (y.2.map fun(i:Nat)=>Dt.int (i:Int))],by simp only[Dt.deps,Dt.dep,Ah];decide,.inr ⟨Dh ⟨tq,pq,rfl,f1,f2⟩,Dh ⟨wp,pp,rfl,D _ _ e2,aZ.of (D _ _ e3)⟩⟩,true,rfl,?_⟩⟩⟩;rw[q07 rfl];have D:=(G.trans f0).trans D;refine⟨_,aZ.of (D _ _ zt),_,rfl,g0,d0,O,st,a0,l,6,z.v,z.x.t,rfl,G0.up D,M,B,zv.up (dX.of D) _,⋯,.inl ⟨m,_,I,Y,λk H23 hk s23=>⟨_,rfl,?_⟩⟩⟩;have:=(My.mp hk).1;rw[T]at this;rw[q09 ⋯];exact q _
end
theorem bdc{n:Nat}{P:List Value->Prop}(h:∀a us,us.length=n->P (a::us)):∀us:List Value,us.length=n+1->P us:=by
 intro us e;cases us with|nil=>cases e|cons a us=>exact h a us (Nat.succ.inj e)
theorem bd0{P:List Value->Prop}(h:P []):∀us:List Value,us.length=0->P us:=by
 intro us e;cases us with|nil=>exact h|cons a us=>cases e
theorem bd1{P:List Value->Prop}(h:∀a,P [a]):∀us:List Value,us.length=1->P us:=bdc λa=>bd0 (P:=λus=>P (a::us)) (h a)
theorem bd2{P:List Value->Prop}(h:∀a b,P [a,b]):∀us:List Value,us.length=2->P us:=bdc λa=>bd1 (P:=λus=>P (a::us)) (h a)
theorem bd3{P:List Value->Prop}(h:∀a b c,P [a,b,c]):∀us:List Value,us.length=3->P us:=bdc λa=>bd2 (P:=λus=>P (a::us)) (h a)
theorem bd4{P:List Value->Prop}(h:∀a b c d,P [a,b,c,d]):∀us:List Value,us.length=4->P us:=bdc λa=>bd3 (P:=λus=>P (a::us)) (h a)
theorem bd5{P:List Value->Prop}(h:∀a b c d e,P [a,b,c,d,e]):∀us:List Value,us.length=5->P us:=bdc λa=>bd4 (P:=λus=>P (a::us)) (h a)
theorem bd6{P:List Value->Prop}(h:∀a b c d e f,P [a,b,c,d,e,f]):∀us:List Value,us.length=6->P us:=bdc λa=>bd5 (P:=λus=>P (a::us)) (h a)
def FK(K:W.Frag)(x:Str)(st:Stmt)(f:Addr):Prop:=W.nsIn K mainGlobals x=some (some (.ref f))/\∃oc od osl kV doc pm an cdv ct,K.lookup f=some ⟨oc,od,.func (W.fnOf x x (aX st) (aT st) (aj st) .none kV doc pm an cdv ct),osl⟩/\W.codeIn K cdv x=true/\W.keepIn K (.ref f)=true
theorem fk_mk{K:W.Frag}{st:Stmt}{f:Addr}{oc:Value}{od an:NJ}{osl:Array (Option Value)}{kV doc pm cdv ct:Value}(a:W.nsIn K mainGlobals x=some (some (.ref f)))(l:K.lookup f=some ⟨oc,od,.func (W.fnOf x x (aX st) (aT st) (aj st) .none kV doc pm an cdv ct),osl⟩)(c:W.codeIn K cdv x=true)(k:W.keepIn K (.ref f)=true):FK K x st f:=⟨a,oc,od,osl,kV,doc,pm,an,cdv,ct,l,c,k⟩
theorem FK.cal{K:W.Frag}{st:Stmt}{f:Addr}{mg:NC}{CX:kC}{ps:NF}{sp:Sp}(P:NE)(w:NH)(base:Heap)(q:FK K x st f)(X:K.In h)(G:h.Ns mainGlobals mg)
  (ok:∀fd,cF K x x st f fd->mg x=some (.ref f)->W.keepIn K (.ref f)=true->cq K fd ps []->aS P w K mg base CX k f fd ps sp)
  (hb:∀(kV doc pm:Value) (an:NJ) (cdv ct:Value) (us:Nz),us.length=ps.length->bindArgs (W.fnOf x x (aX st) (aT st) (aj st) .none kV doc pm an cdv ct) ⟨us,[]⟩=pure (ps.zip us):=by first|exact λ_ _ _ _ _ _=>bd1 λ_=>rfl|exact λ_ _ _ _ _ _=>bd2 λ_ _=>rfl|exact λ_ _ _ _ _ _=>bd3 λ_ _ _=>rfl|exact λ_ _ _ _ _ _=>bd4 λ_ _ _ _=>rfl):dU P w K mg base CX k x ps sp:=by
 obtain⟨a,oc,od,osl,kV,doc,pm,an,cdv,ct,l,c,e⟩:=q;have F:=bI l c e;have b:=F.binds hb;exact⟨_,_,ok _ F (W.mg_of X G a) e b,W.mg_of X G a,e,b⟩
theorem all_mk{l:W.OpenLaw}{K:W.Frag}{mg:NC}{fa:Addr}(X:K.In h)(G:h.Ns mainGlobals mg)(K6:mg "law"=some (.ref fa))
  (a1:FK K "only_of" nX f1) (a2:FK K "is_name" nK f2) (a3:FK K "are_signs" kc f3) (a4:FK K "check_made_of" fT f4) (a5:FK K "numbers_by_name" e_ f5) (a6:FK K "beside" rN f6) (a7:FK K "above" u7 f7) (a8:FK K "mirror" r9 f8) (a9:FK K "column_from_below" dQ f9) (Lu:FK K "quarter" nW f10) (Le:FK K "turned" rJ f11) (Mc:FK K "check_form" jd f12) (Lw:FK K "lay" EK f13) (LJ:FK K "laid" Aa f14) (K0:FK K "numbers_in" jf f15) (Lj:FK K "cost_of" ow f16) (Kx:FK K "size_of" nY f17) (Ma:FK K "fewest" rW f18) (Lc:FK K "paired_rows" ir f19) (Lz:FK K "row_of" qP f20) (L4:FK K "count_trees" iw f21) (K3:FK K "tree_at" oI f22) (KI:FK K "number_of" j0 f23) (LN:FK K "trees_of" mz f24) (LF:FK K "_law_cell" rh f25) (Mh:FK K "_law_cells" nZ f26) (L7:FK K "_law_signs" ol f27) (Lo:FK K "_law_names" oG f28) (Kw:FK K "_law_rule" qQ f29) (LY:FK K "_law_grammar" jP f30) (Ld:FK K "_law_turned" mJ f31) (Lv:FK K "_law_joined" mi f32) (Mn:FK K "_law_noted" oQ f33) (Ln:FK K "_law_put" vS f34) (K2:FK K "_law_step" qf f35) (Kh:FK K "_law_grown" nQ f36) (KF:FK K "_law_error" nI f37) (Md:FK K "_law_no_number" ip f38) (Mo:FK K "_law_no_name" kq f39) (KM:FK K "_law_spoilt" mj f40) (Lf:FK K "_law_spoilt_within" fh f41) (KW:FK K "_law_why" vi f42) (Ly:FK K "law" uw f43)
  {zfa zia yaa yab zda zPa yac yaW yaq zBa zea zsa zaa zla zba zoa zca zta zja zCa zpa zya zka zAa zma zDa zqa zga zva zGa zHa zra yad yaQ yaN yaO yaP yaR yaX yaM yaS yaf yae:Addr} {ycS ycw ycK yeg yd0 yb7 ydk ydj:Tok} {yco ycP ycv yb9 yea ydM yb5 ydC ycj yc9 zVe zWe zyd zzd zfc zgc zMc zNc zAd zBd zfg zgg zXe zYe zOc zPc zne zoe zTb zUb zHe zIe zhc zic zZe zaf zQc zRc zYd zZd zJf zKf zLf zMf zSc zTc ydO yc7 ydX ycZ ydA ycV ydV yd3 yci ycF yce ydY ycX ycg ydd ydq ycH ydg:NJ} {zfh zhh ybU ybF zFa yaz ycT ycB:ClassData} {zgh zih ycp yee zwg ydJ yd9 yc5 zbf zCd zjc zUc zDd zhg zcf zVc zpe zVb zJe zkc zdf zWc zae zNf zOf zXc ycY ydp ydL ydU yct yd7 ydK ycO ydo ydm:Array (Option Value)} {ydI yda yd1 ycR ybQ yed yb6 ycW ydF ydz ybR ydB zef zff zgf zhf zHb zif zEd zFd zGd zHd zlb zId zlc zmc znc zoc zUa zpc zYc zZc zad zbd zZa zcd zJd zKd zLd zMd zmb zNd zig zjg zkg zlg zbe zmg zjf zkf zlf zmf zIb znf zdd zed zfd zgd zab zhd zqe zre zse zte zvb zue zWb zXb zYb zZb zQa zac zKe zLe zMe zNe zCb zOe zqc zrc zsc ztc zVa zuc zof zpf zqf zrf zJb zsf zid zjd zkd zld zbb zmd zce zde zee zfe zrb zge zPf zQf zRf zSf zvc zTf zUf zVf zWf zXf zwc zYf znd zod zpd zqd zcb zrd ycs ydh ydt ydN ybS ydx ycL yc3 ycM yd5 ybV ydu ydr ydD ycz ycN ybB yef ycn yc1 yc6 yeb yb0 yca yde ycQ ycr yc8 ybC ydS yec ycU ycc ycG yb1 ydf ycE ydl ydG ydH ybO ydc ycy ycm yc4 yc0 ybK ycb:Value}  (Gg:W.nsIn K mainGlobals "NoRule"=some (some (.ref zfa))) (D0:K.lookup zfa=some ⟨.type "type",yco,.cls zfh,zgh⟩) (wP:W.excIn K zfa [.type "ValueError",.type "Exception",.type "BaseException",.type "object"] "ValueError.__new__"=true) (Bl:W.findIn K (.ref zfa) "__getattribute__"=some (some (.builtin "BaseException.__getattribute__"))) (B1:W.findIn K (.ref zfa) "__getattr__"=some none) (CA:W.mroIn K zfa (.type "BaseException")=some true) (Bp:W.mroIn K zfa (.type "object")=some true) (A7:W.findIn K (.ref zfa) "__class__"=some (some (.builtin "object.__class__"))) (Am:W.specialIn K (.builtin "object.__class__") "__get__"=some (some (.builtin "getset_descriptor.__get__"))) (Ae:W.takesIn K (.builtin "object.__class__")=some true) (Hm:W.nsIn K mainGlobals "NoFit"=some (some (.ref zia))) (Gx:K.lookup zia=some ⟨.type "type",ycP,.cls zhh,zih⟩) (Au:W.excIn K zia [.type "ValueError",.type "Exception",.type "BaseException",.type "object"] "ValueError.__new__"=true) (EB:W.findIn K (.ref zia) "__getattribute__"=some (some (.builtin "BaseException.__getattribute__"))) (E3:W.findIn K (.ref zia) "__getattr__"=some none) (Ei:W.mroIn K zia (.type "BaseException")=some true) (Fg:W.mroIn K zia (.type "object")=some true) (Fe:W.findIn K (.ref zia) "__class__"=some (some (.builtin "object.__class__"))) (Fu:W.nsIn K mainGlobals "NoName"=some (some (.ref yaa))) (wT:K.lookup yaa=some ⟨.type "type",ycv,.cls ybU,ycp⟩) (wL:W.excIn K yaa [.type "ValueError",.type "Exception",.type "BaseException",.type "object"] "ValueError.__new__"=true) (B7:W.findIn K (.ref yaa) "__getattribute__"=some (some (.builtin "BaseException.__getattribute__"))) (BW:W.findIn K (.ref yaa) "__getattr__"=some none) (Bi:W.mroIn K yaa (.type "BaseException")=some true) (Br:W.mroIn K yaa (.type "object")=some true) (Bc:W.findIn K (.ref yaa) "__class__"=some (some (.builtin "object.__class__"))) (A3:W.nsIn K mainGlobals "NoNumber"=some (some (.ref yab))) (rn:K.lookup yab=some ⟨.type "type",yb9,.cls ybF,yee⟩) (sj:W.excIn K yab [.type "ValueError",.type "Exception",.type "BaseException",.type "object"] "ValueError.__new__"=true) (xV:W.findIn K (.ref yab) "__getattribute__"=some (some (.builtin "BaseException.__getattribute__"))) (xz:W.findIn K (.ref yab) "__getattr__"=some none) (xG:W.mroIn K yab (.type "BaseException")=some true) (xc:W.mroIn K yab (.type "object")=some true) (wF:W.findIn K (.ref yab) "__class__"=some (some (.builtin "object.__class__"))) (yt:W.nsIn K mainGlobals "NoGrammar"=some (some (.ref zda))) (pf:K.lookup zda=some ⟨.type "type",yea,.cls zFa,zwg⟩) (vC:W.excOut K zda [.type "ValueError",.type "Exception",.type "BaseException",.type "object"] "ValueError.__new__"=true) (vG:W.findIn K (.ref zda) "__getattribute__"=some (some (.builtin "BaseException.__getattribute__"))) (vp:W.findIn K (.ref zda) "__getattr__"=some none) (uB:W.mroIn K zda (.type "BaseException")=some true) (v_:W.mroIn K zda (.type "object")=some true) (uE:W.findIn K (.ref zda) "__class__"=some (some (.builtin "object.__class__"))) (vI:W.findIn K (.ref zda) "__init__"=some (some (.ref zPa))) (vn:W.typeIn K (.ref zPa)=some (.type "function")) (uN:K.lookup zPa=some ⟨ydI,ydM,.func (W.fnOf "__init__" "NoGrammar.__init__" (aX kQ) (aT kQ) (aj kQ) .none yda yd1 ycR yb5 ybQ yed),ydJ⟩) (uC:W.codeIn K ybQ "NoGrammar.__init__"=true) (uW:W.keepIn K (.ref zPa)=true) (vJ:W.findIn K (.ref zda) "__setattr__"=some (some (.builtin "object.__setattr__"))) (uU:W.strip zFa.mro=[.type "ValueError",.type "Exception",.type "BaseException",.type "object"]) (mS:zFa.hasDict=true) (u6:zFa.mro.contains (.type "object")=true) (vP:zFa.mro.isEmpty=false) (uO:W.findIn K (.ref zda) "why"=some none) (Gf:W.nsIn K mainGlobals "NoTree"=some (some (.ref yac))) (qH:K.lookup yac=some ⟨.type "type",ydC,.cls yaz,yd9⟩) (BV:W.excOut K yac [.type "ValueError",.type "Exception",.type "BaseException",.type "object"] "ValueError.__new__"=true) (Bw:W.findIn K (.ref yac) "__getattribute__"=some (some (.builtin "BaseException.__getattribute__"))) (B4:W.findIn K (.ref yac) "__getattr__"=some none) (Cs:W.mroIn K yac (.type "BaseException")=some true) (BR:W.mroIn K yac (.type "object")=some true) (Cr:W.findIn K (.ref yac) "__class__"=some (some (.builtin "object.__class__"))) (CC:W.findIn K (.ref yac) "__init__"=some (some (.ref yaW))) (By:W.typeIn K (.ref yaW)=some (.type "function")) (CB:K.lookup yaW=some ⟨yb6,ycj,.func (W.fnOf "__init__" "NoTree.__init__" (aX kF) (aT kF) (aj kF) .none ycW ydF ydz yc9 ybR ydB),yc5⟩) (Be:W.codeIn K ybR "NoTree.__init__"=true) (CI:W.keepIn K (.ref yaW)=true) (BK:W.findIn K (.ref yac) "__setattr__"=some (some (.builtin "object.__setattr__"))) (B6:W.strip yaz.mro=[.type "ValueError",.type "Exception",.type "BaseException",.type "object"]) (tR:yaz.hasDict=true) (CS:yaz.mro.contains (.type "object")=true) (Cd:yaz.mro.isEmpty=false) (tY:W.findIn K (.ref yac) "why"=some none) (Cc:W.nsIn K mainGlobals "CAPITALS"=some (some (.str "ABCDEFGHIJKLMNOPQRSTUVWXYZ" ycS))) (Gm:W.nsIn K mainGlobals "SMALLS"=some (some (.str "abcdefghijklmnopqrstuvwxyz" ycw))) (tj:W.nsIn K mainGlobals "LONGEST_NAME"=some (some (.int 4 ycK))) (Iq:W.nsIn K mainGlobals "Rule"=some (some (.ref yaq))) (G5:W.specialIn K (.ref yaq) "__getattribute__"=some (some (.builtin "type.__getattribute__"))) (Hz:W.readsIn K yaq (.type "type")=true) (pC:W.findCls K (.ref yaq) (.type "type") "__init__"=some (.val (.ref zBa))) (pT:K.lookup zBa=some ⟨zef,zVe,.func (W.fnOf "__init__" "Rule.__init__" (aX eW) (aT eW) (aj eW) .none zff zgf zhf zWe zHb zif),zbf⟩) (pH:W.codeIn K zHb "Rule.__init__"=true) (JU:W.keepIn K (.ref zBa)=true) (CZ:W.isFn K (.ref zBa)=true) (Cb:W.nsIn K mainGlobals "CellRule"=some (some (.ref zea))) (K4:W.plainGet K zea Str.empty=true) (LR:W.hasDictIn K zea=true) (L6:W.plainOver K zea=true) (LG:W.findIn K (.ref zea) "__setattr__"=some (some (.builtin "object.__setattr__"))) (Li:W.findIn K (.ref zea) "__class__"=some (some (.builtin "object.__class__"))) (Kd:W.mroIn K zea (.type "object")=some true) (LL:W.findIn K (.ref zea) "name"=some none) (Lx:W.findIn K (.ref zea) "cost"=some none) (L':W.findIn K (.ref zea) "part_names"=some none) (KS:W.findIn K (.ref zea) "sign"=some none) (zd:W.makesIn K zea=true) (yN:W.findIn K (.ref zea) "__init__"=some (some (.ref zsa))) (lE:K.lookup zsa=some ⟨zEd,zyd,.func (W.fnOf "__init__" "CellRule.__init__" (aX eD) (aT eD) (aj eD) .none zFd zGd zHd zzd zlb zId),zCd⟩) (lA:W.codeIn K zlb "CellRule.__init__"=true) (Ky:W.keepIn K (.ref zsa)=true) (lC:W.isFn K (.ref zsa)=true) (yD:W.keepIn K (.ref zea)=true) (KU:W.kitOne K (.ref zea) (.ref yaq)=some true) (JO:W.kitOne K (.ref zea) (.ref zea)=some true) (wU:W.nsIn K mainGlobals "BesideRule"=some (some (.ref zaa))) (K8:W.plainGet K zaa Str.empty=true) (Mj:W.hasDictIn K zaa=true) (Lg:W.plainOver K zaa=true) (Mm:W.findIn K (.ref zaa) "__setattr__"=some (some (.builtin "object.__setattr__"))) (KL:W.findIn K (.ref zaa) "__class__"=some (some (.builtin "object.__class__"))) (Ms:W.mroIn K zaa (.type "object")=some true) (Km:W.findIn K (.ref zaa) "name"=some none) (Kk:W.findIn K (.ref zaa) "cost"=some none) (KZ:W.findIn K (.ref zaa) "part_names"=some none) (LW:W.findIn K (.ref zaa) "one"=some none) (K7:W.findIn K (.ref zaa) "other"=some none) (uZ:W.makesIn K zaa=true) (vx:W.findIn K (.ref zaa) "__init__"=some (some (.ref zla))) (jB:K.lookup zla=some ⟨zlc,zfc,.func (W.fnOf "__init__" "BesideRule.__init__" (aX dq) (aT dq) (aj dq) .none zmc znc zoc zgc zUa zpc),zjc⟩) (jE:W.codeIn K zUa "BesideRule.__init__"=true) (LC:W.keepIn K (.ref zla)=true) (jC:W.isFn K (.ref zla)=true) (u8:W.keepIn K (.ref zaa)=true) (Ko:W.kitOne K (.ref zaa) (.ref yaq)=some true) (JR:W.kitOne K (.ref zaa) (.ref zaa)=some true) (ya:W.nsIn K mainGlobals "AboveRule"=some (some (.ref zba))) (KJ:W.plainGet K zba Str.empty=true) (L9:W.hasDictIn K zba=true) (Mq:W.plainOver K zba=true) (La:W.findIn K (.ref zba) "__setattr__"=some (some (.builtin "object.__setattr__"))) (KH:W.findIn K (.ref zba) "__class__"=some (some (.builtin "object.__class__"))) (Kv:W.mroIn K zba (.type "object")=some true) (Kl:W.findIn K (.ref zba) "name"=some none) (KC:W.findIn K (.ref zba) "cost"=some none) (LO:W.findIn K (.ref zba) "part_names"=some none) (KP:W.findIn K (.ref zba) "one"=some none) (L5:W.findIn K (.ref zba) "other"=some none) (xm:W.makesIn K zba=true) (xU:W.findIn K (.ref zba) "__init__"=some (some (.ref zoa))) (ky:K.lookup zoa=some ⟨zYc,zMc,.func (W.fnOf "__init__" "AboveRule.__init__" (aX dL) (aT dL) (aj dL) .none zZc zad zbd zNc zZa zcd),zUc⟩) (jT:W.codeIn K zZa "AboveRule.__init__"=true) (K1:W.keepIn K (.ref zoa)=true) (kg:W.isFn K (.ref zoa)=true) (xR:W.keepIn K (.ref zba)=true) (KY:W.kitOne K (.ref zba) (.ref yaq)=some true) (Kb:W.kitOne K (.ref zba) (.ref zba)=some true) (A0:W.nsIn K mainGlobals "TurnRule"=some (some (.ref zca))) (KK:W.plainGet K zca Str.empty=true) (Lb:W.hasDictIn K zca=true) (LU:W.plainOver K zca=true) (Ml:W.findIn K (.ref zca) "__setattr__"=some (some (.builtin "object.__setattr__"))) (LS:W.findIn K (.ref zca) "__class__"=some (some (.builtin "object.__class__"))) (Mg:W.mroIn K zca (.type "object")=some true) (Ke:W.findIn K (.ref zca) "name"=some none) (LV:W.findIn K (.ref zca) "cost"=some none) (Mb:W.findIn K (.ref zca) "part_names"=some none) (L8:W.findIn K (.ref zca) "part"=some none) (Mi:W.findIn K (.ref zca) "turning"=some none) (ye:W.makesIn K zca=true) (zI:W.findIn K (.ref zca) "__init__"=some (some (.ref zta))) (k8:K.lookup zta=some ⟨zJd,zAd,.func (W.fnOf "__init__" "TurnRule.__init__" (aX d_) (aT d_) (aj d_) .none zKd zLd zMd zBd zmb zNd),zDd⟩) (lJ:W.codeIn K zmb "TurnRule.__init__"=true) (Lp:W.keepIn K (.ref zta)=true) (ld:W.isFn K (.ref zta)=true) (yf:W.keepIn K (.ref zca)=true) (LH:W.kitOne K (.ref zca) (.ref yaq)=some true) (JQ:W.kitOne K (.ref zca) (.ref zca)=some true) (xN:W.nsIn K mainGlobals "MOST_SIGNS"=some (some (.int 4 yeg))) (w8:W.nsIn K mainGlobals "MOST_RULES"=some (some (.int 24 yd0))) (xO:W.nsIn K mainGlobals "MOST_NAMES"=some (some (.int 8 yb7))) (IJ:W.nsIn K mainGlobals "MOST"=some (some (.int 6 ydk))) (KB:W.kitOne K (.ref zea) (.ref zaa)=some false) (Ki:W.kitOne K (.ref zea) (.ref zba)=some false) (Mt:W.kitOne K (.ref zea) (.ref zca)=some false) (LK:W.kitOne K (.ref zaa) (.ref zea)=some false) (LB:W.kitOne K (.ref zaa) (.ref zba)=some false) (Lq:W.kitOne K (.ref zaa) (.ref zca)=some false) (L_:W.kitOne K (.ref zba) (.ref zea)=some false) (Kq:W.kitOne K (.ref zba) (.ref zaa)=some false) (Mf:W.kitOne K (.ref zba) (.ref zca)=some false) (Kz:W.kitOne K (.ref zca) (.ref zea)=some false) (Kn:W.kitOne K (.ref zca) (.ref zaa)=some false) (K_:W.kitOne K (.ref zca) (.ref zba)=some false) (oP:W.findIn K (.ref zea) "parts"=some (some (.ref zja))) (wf:K.lookup zja=some ⟨zig,zfg,.func (W.fnOf "parts" "Rule.parts" (aX dH) (aT dH) (aj dH) .none zjg zkg zlg zgg zbe zmg),zhg⟩) (vq:W.codeIn K zbe "Rule.parts"=true) (IU:W.keepIn K (.ref zja)=true) (gn:W.isFn K (.ref zja)=true) (pF:W.findIn K (.ref zea) "made"=some (some (.ref zCa))) (pK:K.lookup zCa=some ⟨zjf,zXe,.func (W.fnOf "made" "CellRule.made" (aX eX) (aT eX) (aj eX) .none zkf zlf zmf zYe zIb znf),zcf⟩) (pG:W.codeIn K zIb "CellRule.made"=true) (JV:W.keepIn K (.ref zCa)=true) (pA:W.isFn K (.ref zCa)=true) (j3:W.findIn K (.ref zea) "part_rows"=some (some (.ref zpa))) (ke:K.lookup zpa=some ⟨zdd,zOc,.func (W.fnOf "part_rows" "CellRule.part_rows" (aX eZ) (aT eZ) (aj eZ) .none zed zfd zgd zPc zab zhd),zVc⟩) (kb:W.codeIn K zab "CellRule.part_rows"=true) (JW:W.keepIn K (.ref zpa)=true) (j7:W.isFn K (.ref zpa)=true) (l_:W.findIn K (.ref zaa) "parts"=some (some (.ref zja))) (mY:W.findIn K (.ref zaa) "made"=some (some (.ref zya))) (mR:K.lookup zya=some ⟨zqe,zne,.func (W.fnOf "made" "BesideRule.made" (aX dm) (aT dm) (aj dm) .none zre zse zte zoe zvb zue),zpe⟩) (nB:W.codeIn K zvb "BesideRule.made"=true) (JS:W.keepIn K (.ref zya)=true) (mT:W.isFn K (.ref zya)=true) (ja:W.findIn K (.ref zaa) "part_rows"=some (some (.ref zka))) (i9:K.lookup zka=some ⟨zWb,zTb,.func (W.fnOf "part_rows" "BesideRule.part_rows" (aX dn) (aT dn) (aj dn) .none zXb zYb zZb zUb zQa zac),zVb⟩) (i4:W.codeIn K zQa "BesideRule.part_rows"=true) (J2:W.keepIn K (.ref zka)=true) (jn:W.isFn K (.ref zka)=true) (nk:W.findIn K (.ref zba) "parts"=some (some (.ref zja))) (nJ:W.findIn K (.ref zba) "made"=some (some (.ref zAa))) (ou:K.lookup zAa=some ⟨zKe,zHe,.func (W.fnOf "made" "AboveRule.made" (aX dJ) (aT dJ) (aj dJ) .none zLe zMe zNe zIe zCb zOe),zJe⟩) (oA:W.codeIn K zCb "AboveRule.made"=true) (Ka:W.keepIn K (.ref zAa)=true) (n_:W.isFn K (.ref zAa)=true) (jJ:W.findIn K (.ref zba) "part_rows"=some (some (.ref zma))) (jD:K.lookup zma=some ⟨zqc,zhc,.func (W.fnOf "part_rows" "AboveRule.part_rows" (aX dI) (aT dI) (aj dI) .none zrc zsc ztc zic zVa zuc),zkc⟩) (jF:W.codeIn K zVa "AboveRule.part_rows"=true) (J1:W.keepIn K (.ref zma)=true) (jG:W.isFn K (.ref zma)=true) (oM:W.findIn K (.ref zca) "parts"=some (some (.ref zja))) (pN:W.findIn K (.ref zca) "made"=some (some (.ref zDa))) (pE:K.lookup zDa=some ⟨zof,zZe,.func (W.fnOf "made" "TurnRule.made" (aX eV) (aT eV) (aj eV) .none zpf zqf zrf zaf zJb zsf),zdf⟩) (pL:W.codeIn K zJb "TurnRule.made"=true) (JT:W.keepIn K (.ref zDa)=true) (pP:W.isFn K (.ref zDa)=true) (j6:W.findIn K (.ref zca) "part_rows"=some (some (.ref zqa))) (ki:K.lookup zqa=some ⟨zid,zQc,.func (W.fnOf "part_rows" "TurnRule.part_rows" (aX eR) (aT eR) (aj eR) .none zjd zkd zld zRc zbb zmd),zWc⟩) (jS:W.codeIn K zbb "TurnRule.part_rows"=true) (J0:W.keepIn K (.ref zqa)=true) (jU:W.isFn K (.ref zqa)=true) (Fi:W.nsIn K mainGlobals "Grammar"=some (some (.ref zga))) (Mp:W.plainGet K zga Str.empty=true) (LM:W.hasDictIn K zga=true) (KQ:W.plainOver K zga=true) (KD:W.findIn K (.ref zga) "__setattr__"=some (some (.builtin "object.__setattr__"))) (Kt:W.findIn K (.ref zga) "__class__"=some (some (.builtin "object.__class__"))) (Lh:W.mroIn K zga (.type "object")=some true) (LA:W.findIn K (.ref zga) "signs"=some none) (Lk:W.findIn K (.ref zga) "start"=some none) (Kf:W.findIn K (.ref zga) "kept"=some none) (LD:W.findIn K (.ref zga) "numbers"=some none) (BC:W.makesIn K zga=true) (Bb:W.findIn K (.ref zga) "__init__"=some (some (.ref zva))) (mh:K.lookup zva=some ⟨zce,zYd,.func (W.fnOf "__init__" "Grammar.__init__" (aX eJ) (aT eJ) (aj eJ) .none zde zee zfe zZd zrb zge),zae⟩) (mf:W.codeIn K zrb "Grammar.__init__"=true) (K5:W.keepIn K (.ref zva)=true) (l5:W.isFn K (.ref zva)=true) (CQ:W.keepIn K (.ref zga)=true) (rR:W.findIn K (.ref zga) "rule"=some (some (.ref zGa))) (qm:K.lookup zGa=some ⟨zPf,zJf,.func (W.fnOf "rule" "Grammar.rule" (aX eQ) (aT eQ) (aj eQ) .none zQf zRf zSf zKf zvc zTf),zNf⟩) (qy:W.codeIn K zvc "Grammar.rule"=true) (J8:W.keepIn K (.ref zGa)=true) (rj:W.isFn K (.ref zGa)=true) (qC:W.findIn K (.ref zga) "many"=some (some (.ref zHa))) (rS:K.lookup zHa=some ⟨zUf,zLf,.func (W.fnOf "many" "Grammar.many" (aX eN) (aT eN) (aj eN) .none zVf zWf zXf zMf zwc zYf),zOf⟩) (rA:W.codeIn K zwc "Grammar.many"=true) (JP:W.keepIn K (.ref zHa)=true) (qt:W.isFn K (.ref zHa)=true) (kf:W.findIn K (.ref zga) "numbers_of"=some (some (.ref zra))) (jN:K.lookup zra=some ⟨znd,zSc,.func (W.fnOf "numbers_of" "Grammar.numbers_of" (aX b7) (aT b7) (aj b7) .none zod zpd zqd zTc zcb zrd),zXc⟩) (ka:W.codeIn K zcb "Grammar.numbers_of"=true) (Kc:W.keepIn K (.ref zra)=true) (km:W.isFn K (.ref zra)=true) (Ck:W.nsIn K mainGlobals "TreeRows"=some (some (.ref yad))) (yQ:W.plainGet K yad Str.empty=true) (zB:W.hasDictIn K yad=true) (yE:W.plainOver K yad=true) (zu:W.findIn K (.ref yad) "__setattr__"=some (some (.builtin "object.__setattr__"))) (x9:W.findIn K (.ref yad) "__class__"=some (some (.builtin "object.__class__"))) (yq:W.mroIn K yad (.type "object")=some true) (mD:W.findIn K (.ref yad) "grammar"=some none) (oO:W.findIn K (.ref yad) "steps"=some none) (nC:W.findIn K (.ref yad) "totals"=some none) (zF:W.makesIn K yad=true) (yG:W.findIn K (.ref yad) "__init__"=some (some (.ref yaQ))) (lI:K.lookup yaQ=some ⟨ycs,ydO,.func (W.fnOf "__init__" "TreeRows.__init__" (aX gx) (aT gx) (aj gx) .none ydh ydt ydN yc7 ybS ydx),ycY⟩) (k9:W.codeIn K ybS "TreeRows.__init__"=true) (ll:W.keepIn K (.ref yaQ)=true) (lj:W.isFn K (.ref yaQ)=true) (zz:W.keepIn K (.ref yad)=true) (lZ:W.findIn K (.ref yad) "many_in"=some (some (.ref yaN))) (mw:K.lookup yaN=some ⟨ycL,ydX,.func (W.fnOf "many_in" "TreeRows.many_in" (aX cu) (aT cu) (aj cu) .none yc3 ycM yd5 ycZ ybV ydu),ydp⟩) (mI:W.codeIn K ybV "TreeRows.many_in"=true) (gK:W.keepIn K (.ref yaN)=true) (mE:W.isFn K (.ref yaN)=true) (lu:W.findIn K (.ref yad) "steps_of"=some (some (.ref yaO))) (lm:K.lookup yaO=some ⟨ydr,ydA,.func (W.fnOf "steps_of" "TreeRows.steps_of" (aX cw) (aT cw) (aj cw) .none ydD ycz ycN ycV ybB yef),ydL⟩) (lh:W.codeIn K ybB "TreeRows.steps_of"=true) (fY:W.keepIn K (.ref yaO)=true) (lw:W.isFn K (.ref yaO)=true) (lg:W.findIn K (.ref yad) "reckoned"=some (some (.ref yaP))) (lH:K.lookup yaP=some ⟨ycn,ydV,.func (W.fnOf "reckoned" "TreeRows.reckoned" (aX cy) (aT cy) (aj cy) .none yc1 yc6 yeb yd3 yb0 yca),ydU⟩) (lF:W.codeIn K yb0 "TreeRows.reckoned"=true) (fX:W.keepIn K (.ref yaP)=true) (lD:W.isFn K (.ref yaP)=true) (im:W.findIn K (.ref yad) "many_together"=some (some (.ref yaR))) (iA:K.lookup yaR=some ⟨yde,yci,.func (W.fnOf "many_together" "TreeRows.many_together" (aX bw) (aT bw) (aj bw) .none ycQ ycr yc8 ycF ybC ydS),yct⟩) (iq:W.codeIn K ybC "TreeRows.many_together"=true) (dR:W.keepIn K (.ref yaR)=true) (iD:W.isFn K (.ref yaR)=true) (ml:W.findIn K (.ref yad) "tree_in"=some (some (.ref yaX))) (my:K.lookup yaX=some ⟨yec,yce,.func (W.fnOf "tree_in" "TreeRows.tree_in" (aX cL) (aT cL) (aj cL) .none ycU ycc ycG ydY yb1 ydf),yd7⟩) (mx:W.codeIn K yb1 "TreeRows.tree_in"=true) (gD:W.keepIn K (.ref yaX)=true) (l6:W.isFn K (.ref yaX)=true) (li:W.findIn K (.ref yad) "trees_in"=some (some (.ref yaM))) (lx:K.lookup yaM=some ⟨ycE,ycX,.func (W.fnOf "trees_in" "TreeRows.trees_in" (aX cN) (aT cN) (aj cN) .none ydl ydG ydH ycg ybO ydc),ydK⟩) (lG:W.codeIn K ybO "TreeRows.trees_in"=true) (f_:W.keepIn K (.ref yaM)=true) (lK:W.isFn K (.ref yaM)=true) (jX:W.findIn K (.ref yad) "number_in"=some (some (.ref yaS))) (j_:K.lookup yaS=some ⟨ycy,ydd,.func (W.fnOf "number_in" "TreeRows.number_in" (aX bZ) (aT bZ) (aj bZ) .none ycm yc4 yc0 ydq ybK ycb),ycO⟩) (jL:W.codeIn K ybK "TreeRows.number_in"=true) (fO:W.keepIn K (.ref yaS)=true) (kA:W.isFn K (.ref yaS)=true) (Ez:W.nsIn K mainGlobals "TooMany"=some (some (.ref yaf))) (CD:K.lookup yaf=some ⟨.type "type",ycH,.cls ycT,ydo⟩) (ud:W.excIn K yaf [.type "ValueError",.type "Exception",.type "BaseException",.type "object"] "ValueError.__new__"=true) (zA:W.findIn K (.ref yaf) "__getattribute__"=some (some (.builtin "BaseException.__getattribute__"))) (y4:W.findIn K (.ref yaf) "__getattr__"=some none) (zf:W.mroIn K yaf (.type "BaseException")=some true) (zR:W.mroIn K yaf (.type "object")=some true) (zV:W.findIn K (.ref yaf) "__class__"=some (some (.builtin "object.__class__"))) (ww:W.nsIn K mainGlobals "MOST_TREES"=some (some (.int 300 ydj))) (wB:W.nsIn K mainGlobals "QuiltError"=some (some (.ref yae))) (vX:K.lookup yae=some ⟨.type "type",ydg,.cls ycB,ydm⟩) (m_:W.excIn K yae [.type "ValueError",.type "Exception",.type "BaseException",.type "object"] "ValueError.__new__"=true) (sR:W.findIn K (.ref yae) "__getattribute__"=some (some (.builtin "BaseException.__getattribute__"))) (sV:W.findIn K (.ref yae) "__getattr__"=some none) (sX:W.mroIn K yae (.type "BaseException")=some true) (sW:W.mroIn K yae (.type "object")=some true) (sG:W.findIn K (.ref yae) "__class__"=some (some (.builtin "object.__class__"))) (lB:ybU.mro.contains (.ref yae)=true) (jI:ybF.mro.contains (.ref yae)=true) (k_:yaz.mro.contains (.ref yae)=true) (u1:W.kitOne K (.ref yab) (.ref yab)=some true) (u3:W.kitOne K (.ref yab) (.ref yaa)=some false) (u4:W.kitOne K (.ref yab) (.ref yaf)=some false) (n1:W.kitOne K (.ref yaa) (.ref yaa)=some true) (n2:W.kitOne K (.ref yaa) (.ref yab)=some false) (n3:W.kitOne K (.ref yaa) (.ref yaf)=some false) (t1:W.kitOne K (.ref yac) (.ref yac)=some true) (t2:W.kitOne K (.ref yac) (.ref yab)=some false) (u2:W.kitOne K (.ref yab) (.type "ValueError")=some true)
  (z0:W.nsIn K mainGlobals "len"=some none) (z1:W.nsIn K mainGlobals "range"=some none) (z2:W.nsIn K mainGlobals "list"=some none) (z3:W.nsIn K mainGlobals "tuple"=some none) (z4:W.nsIn K mainGlobals "isinstance"=some none) (z5:W.nsIn K mainGlobals "int"=some none) (z6:W.nsIn K mainGlobals "bool"=some none) (z7:W.nsIn K mainGlobals "str"=some none) (z8:W.nsIn K mainGlobals "reversed"=some none) (z9:W.nsIn K mainGlobals "all"=some none) (LQ:W.nsIn K mainGlobals "enumerate"=some none) (LP:W.nsIn K mainGlobals "zip"=some none) (KN:W.nsIn K mainGlobals "sorted"=some none) (KR:W.nsIn K mainGlobals "set"=some none) (K9:W.nsIn K mainGlobals "dict"=some none) (Ku:W.nsIn K mainGlobals "min"=some none) (Me:W.nsIn K mainGlobals "max"=some none) (LZ:W.nsIn K mainGlobals "sum"=some none) (K':W.nsIn K mainGlobals "ValueError"=some none) :
  ∃fd:FuncData,(∀(s:Ny) (v:Value),BindsTo s fd ⟨[v],[]⟩ [("_law_script",v)])/\∀base:Heap,K.In base->base.Ns mainGlobals mg->aS l.prog w K mg base bL 110 fa fd ["_law_script"] (uM K):=by
 obtain⟨an,oc,od,osl,kV,doc,pm,ann,cdv,ct,hl,hc,hk⟩:=Ly;have e:=K6.symm.trans (W.mg_of X G an);cases e;have FL:=bI hl hc hk;have nb:NB mg:=⟨W.mg_none_of X G z0,W.mg_none_of X G z1,W.mg_none_of X G z2,W.mg_none_of X G z3,W.mg_none_of X G z4,W.mg_none_of X G z5,W.mg_none_of X G z6,W.mg_none_of X G z7,W.mg_none_of X G z8,W.mg_none_of X G z9,W.mg_none_of X G LQ,W.mg_none_of X G LP,W.mg_none_of X G KN,W.mg_none_of X G KR,W.mg_none_of X G K9,W.mg_none_of X G Ku,W.mg_none_of X G Me,W.mg_none_of X G LZ,W.mg_none_of X G K'⟩;refine⟨W.fnOf "law" "law" (aX uw) (aT uw) (aj uw) .none kV doc pm ann cdv ct,λs v=>.of_eq rfl,λbase _ _=>?_⟩;have zEa:=W.mg_of X G Gg;have xc_NoRule:pR K zfa [.type "ValueError",.type "Exception",.type "BaseException",.type "object"] "ValueError.__new__":=⟨wP⟩;have zza:XR K zfa:=⟨_,_,_,_,_,_,_,_,⟨wP⟩,PySem.F.excBase_ValueError,rfl,PySem.F.excBase_ValueError⟩;have xt_NoRule:W.XTy K zfa:=⟨Bl,B1,CA,Bp,A7,Am,Ae,_,_,_,D0⟩;have zAb:=W.mg_of X G Hm;have xc_NoFit:pR K zia [.type "ValueError",.type "Exception",.type "BaseException",.type "object"] "ValueError.__new__":=⟨Au⟩;have zpb:XR K zia:=⟨_,_,_,_,_,_,_,_,⟨Au⟩,PySem.F.excBase_ValueError,rfl,PySem.F.excBase_ValueError⟩;have xt_NoFit:W.XTy K zia:=⟨EB,E3,Ei,Fg,Fe,Am,Ae,_,_,_,Gx⟩;have yau:=W.mg_of X G Fu;have yck:pR K yaa [.type "ValueError",.type "Exception",.type "BaseException",.type "object"] "ValueError.__new__":=⟨wL⟩;have ybn:XR K yaa:=⟨_,_,_,_,_,_,_,_,⟨wL⟩,PySem.F.excBase_ValueError,rfl,PySem.F.excBase_ValueError⟩;have ycI:W.XTy K yaa:=⟨B7,BW,Bi,Br,Bc,Am,Ae,_,_,_,wT⟩;have yaj:=W.mg_of X G A3;have ych:pR K yab [.type "ValueError",.type "Exception",.type "BaseException",.type "object"] "ValueError.__new__":=⟨sj⟩;have yaI:XR K yab:=⟨_,_,_,_,_,_,_,_,⟨sj⟩,PySem.F.excBase_ValueError,rfl,PySem.F.excBase_ValueError⟩;have ydT:W.XTy K yab:=⟨xV,xz,xG,xc,wF,Am,Ae,_,_,_,rn⟩;have zua:=W.mg_of X G yt;have ztg:ju K zda [.type "ValueError",.type "Exception",.type "BaseException",.type "object"] "ValueError.__new__":=⟨vC⟩;have xt_NoGrammar:W.XTy K zda:=⟨vG,vp,uB,v_,uE,Am,Ae,_,_,_,pf⟩;have ybI:W.clsIn K zda=some zFa:=by unfold W.clsIn;rw[pf]
 have xh_NoGrammar:W.hasDictIn K zda=true:=by unfold W.hasDictIn;rw[ybI];exact mS
 have ybM:=bI (st:=kQ) uN uC uW;have ydQ:W.XSt K zda "why":=⟨vJ,⟨zFa,ybI,uU,mS,u6,vP⟩,uO⟩;have ydi:=ybM.binds (ps:=["self","why"]) λ_ _ _ _ _ _=>bd2 λ_ _=>rfl
 have zna:XI l.prog w K mg base 1 zda "why":=⟨_,_,_,_,_,_,_,_,zPa,_,_,ztg,PySem.F.excBase_ValueError,rfl,PySem.F.excBase_ValueError,vI,vn,Ey ybM ydQ,ydi⟩;have yar:=W.mg_of X G Gf;have ya0:ju K yac [.type "ValueError",.type "Exception",.type "BaseException",.type "object"] "ValueError.__new__":=⟨BV⟩;have ydb:W.XTy K yac:=⟨Bw,B4,Cs,BR,Cr,Am,Ae,_,_,_,qH⟩;have ybZ:W.clsIn K yac=some yaz:=by unfold W.clsIn;rw[qH]
 have ydZ:W.hasDictIn K yac=true:=by unfold W.hasDictIn;rw[ybZ];exact tR
 have yby:=bI (st:=kF) CB Be CI;have ydv:W.XSt K yac "why":=⟨BK,⟨yaz,ybZ,B6,tR,CS,Cd⟩,tY⟩;have ydy:=yby.binds (ps:=["self","why"]) λ_ _ _ _ _ _=>bd2 λ_ _=>rfl
 have yaK:XI l.prog w K mg base 1 yac "why":=⟨_,_,_,_,_,_,_,_,yaW,_,_,ya0,PySem.F.excBase_ValueError,rfl,PySem.F.excBase_ValueError,CC,By,EM yby ydv,ydy⟩;have ybs:=W.mg_of X G Cc;have yaH:=W.mg_of X G Gm;have ya7:=W.mg_of X G tj;have ycf:=W.mg_of X G Iq;have zNb:=bI (st:=eW) pT pH JU;have zDf:=zNb.binds (ps:=["self","name","cost","part_names"]) λ_ _ _ _ _ _=>bd4 λ_ _ _ _=>rfl
 have ydn:DH K yaq "__init__" zBa:=⟨G5,Hz,pC,JU⟩;have zyb:=W.mg_of X G Cb;have zKa:fQ K zea:=⟨⟨K4,LR,L6,LG⟩,Li,Am,Ae,Kd⟩;have znb:=bI (st:=eD) lE lA Ky;have zQd:=znb.binds (ps:=["self","name","cost","sign"]) λ_ _ _ _ _ _=>bd4 λ_ _ _ _=>rfl
 have zEg:Mk K zea zsa:=⟨zd,yN,lC,yD⟩;have zug:=W.mg_of X G wU;have zJa:fQ K zaa:=⟨⟨K8,Mj,Lg,Mm⟩,KL,Am,Ae,Ms⟩;have zXa:=bI (st:=dq) jB jE LC;have zCc:=zXa.binds (ps:=["self","name","cost","one","other"]) λ_ _ _ _ _ _=>bd5 λ_ _ _ _ _=>rfl
 have zeg:Mk K zaa zla:=⟨uZ,vx,jC,u8⟩;have zFg:=W.mg_of X G ya;have zNa:fQ K zba:=⟨⟨KJ,L9,Mq,La⟩,KH,Am,Ae,Kv⟩;have zgb:=bI (st:=dL) ky jT K1;have zud:=zgb.binds (ps:=["self","name","cost","one","other"]) λ_ _ _ _ _ _=>bd5 λ_ _ _ _ _=>rfl
 have zvg:Mk K zba zoa:=⟨xm,xU,kg,xR⟩;have zUg:=W.mg_of X G A0;have zLa:fQ K zca:=⟨⟨KK,Lb,LU,Ml⟩,LS,Am,Ae,Mg⟩;have zob:=bI (st:=d_) k8 lJ Lp;have zRd:=zob.binds (ps:=["self","name","cost","part","turning"]) λ_ _ _ _ _ _=>bd5 λ_ _ _ _ _=>rfl
 have zGg:Mk K zca zta:=⟨ye,zI,ld,yf⟩
 let R:RC:=⟨yaq,zea,zaa,zba,zca⟩
 have rk:pJ K R:=⟨zKa,zJa,zNa,zLa,⟨LL,Lx,L',KS⟩,⟨Km,Kk,KZ,LW,K7⟩,⟨Kl,KC,LO,KP,L5⟩,⟨Ke,LV,Mb,L8,Mi⟩,KU,Ko,KY,LH,JO,JR,Kb,JQ⟩;have ybl:=W.mg_of X G xN;have ybd:=W.mg_of X G w8;have ybw:=W.mg_of X G xO;have yai:=W.mg_of X G IJ;have rk4:GN K R:=⟨λi j hi hj=>by rcases kP hi with rfl | rfl | rfl | rfl<;>rcases kP hj with rfl | rfl | rfl | rfl;exact JO;exact KB;exact Ki;exact Mt;exact LK;exact JR;exact LB;exact Lq;exact L_;exact Kq;exact Kb;exact Mf;exact Kz;exact Kn;exact K_;exact JQ⟩;have zOa:=bI (st:=dH) wf vq IU;have zhb:=zOa.binds (ps:=["self"]) λ_ _ _ _ _ _=>bd1 λ_=>rfl
 have zze:dc K zea "parts" zja:=⟨oP,gn,IU⟩;have zOb:=bI (st:=eX) pK pG JV;have zEf:=zOb.binds (ps:=["self","pictures"]) λ_ _ _ _ _ _=>bd2 λ_ _=>rfl
 have zSe:dc K zea "made" zCa:=⟨pF,pA,JV⟩;have zib:=bI (st:=eZ) ke kb JW;have zvd:=zib.binds (ps:=["self","rows","columns","cost"]) λ_ _ _ _ _ _=>bd4 λ_ _ _ _=>rfl
 have zDc:dc K zea "part_rows" zpa:=⟨j3,j7,JW⟩;have zSd:dc K zaa "parts" zja:=⟨l_,gn,IU⟩;have zxb:=bI (st:=dm) mR nB JS;have zAe:=zxb.binds (ps:=["self","pictures"]) λ_ _ _ _ _ _=>bd2 λ_ _=>rfl
 have zke:dc K zaa "made" zya:=⟨mY,mT,JS⟩;have zSa:=bI (st:=dn) i9 i4 J2;have zcc:=zSa.binds (ps:=["self","rows","columns","cost"]) λ_ _ _ _ _ _=>bd4 λ_ _ _ _=>rfl
 have zGb:dc K zaa "part_rows" zka:=⟨ja,jn,J2⟩;have zle:dc K zba "parts" zja:=⟨nk,gn,IU⟩;have zEb:=bI (st:=dJ) ou oA Ka;have zTe:=zEb.binds (ps:=["self","pictures"]) λ_ _ _ _ _ _=>bd2 λ_ _=>rfl
 have zBe:dc K zba "made" zAa:=⟨nJ,n_,Ka⟩;have zYa:=bI (st:=dI) jD jF J1;have zEc:=zYa.binds (ps:=["self","rows","columns","cost"]) λ_ _ _ _ _ _=>bd4 λ_ _ _ _=>rfl
 have zdc:dc K zba "part_rows" zma:=⟨jJ,jG,J1⟩;have zCe:dc K zca "parts" zja:=⟨oM,gn,IU⟩;have zPb:=bI (st:=eV) pE pL JT;have zFf:=zPb.binds (ps:=["self","pictures"]) λ_ _ _ _ _ _=>bd2 λ_ _=>rfl
 have zUe:dc K zca "made" zDa:=⟨pN,pP,JT⟩;have zjb:=bI (st:=eR) ki jS J0;have zwd:=zjb.binds (ps:=["self","rows","columns","cost"]) λ_ _ _ _ _ _=>bd4 λ_ _ _ _=>rfl
 have zFc:dc K zca "part_rows" zqa:=⟨j6,jU,J0⟩;have zeh:=W.mg_of X G Fi;have zIa:fQ K zga:=⟨⟨Mp,LM,KQ,KD⟩,Kt,Am,Ae,Lh⟩;have zsb:=bI (st:=eJ) mh mf K5;have zme:=zsb.binds (ps:=["self","signs","start","rules"]) λ_ _ _ _ _ _=>bd4 λ_ _ _ _=>rfl
 have zVg:Mk K zga zva:=⟨BC,Bb,l5,CQ⟩;have gk:JZ K zga:=⟨zIa,LA,Lk,Kf,LD⟩;have zGc:=bI (st:=eQ) qm qy J8;have zag:=zGc.binds (ps:=["self","k"]) λ_ _ _ _ _ _=>bd2 λ_ _=>rfl
 have zGf:dc K zga "rule" zGa:=⟨rR,rj,J8⟩;have zHc:=bI (st:=eN) rS rA JP;have zbg:=zHc.binds (ps:=["self"]) λ_ _ _ _ _ _=>bd1 λ_=>rfl
 have zHf:dc K zga "many" zHa:=⟨qC,qt,JP⟩;have zkb:=bI (st:=b7) jN ka Kc;have zxd:=zkb.binds (ps:=["self","name"]) λ_ _ _ _ _ _=>bd2 λ_ _=>rfl
 have zIc:dc K zga "numbers_of" zra:=⟨kf,km,Kc⟩;have ycl:=W.mg_of X G Ck;have yaA:fQ K yad:=⟨⟨yQ,zB,yE,zu⟩,x9,Am,Ae,yq⟩;have ybW:=bI (st:=gx) lI k9 ll;have ycD:=ybW.binds (ps:=["self","grammar"]) λ_ _ _ _ _ _=>bd2 λ_ _=>rfl
 have ycA:Mk K yad yaQ:=⟨zF,yG,lj,zz⟩;have nt:aq K yad "grammar"/\aq K yad "steps"/\aq K yad "totals":=⟨mD,oO,nC⟩;have ybb:=bI (st:=cu) mw mI gK;have ybE:=ybb.binds (ps:=["self","row"]) λ_ _ _ _ _ _=>bd2 λ_ _=>rfl
 have yb2:dc K yad "many_in" yaN:=⟨lZ,mE,gK⟩;have ybm:=bI (st:=cw) lm lh fY;have ybY:=ybm.binds (ps:=["self","row"]) λ_ _ _ _ _ _=>bd2 λ_ _=>rfl
 have yb4:dc K yad "steps_of" yaO:=⟨lu,lw,fY⟩;have ya6:=bI (st:=cy) lH lF fX;have ybL:=ya6.binds (ps:=["self","row"]) λ_ _ _ _ _ _=>bd2 λ_ _=>rfl
 have ybx:dc K yad "reckoned" yaP:=⟨lg,lD,fX⟩;have ya5:=bI (st:=bw) iA iq dR;have ybA:=ya5.binds (ps:=["self","rows"]) λ_ _ _ _ _ _=>bd2 λ_ _=>rfl
 have ybz:dc K yad "many_together" yaR:=⟨im,iD,dR⟩;have ybX:=bI (st:=cL) my mx gD;have ydW:=ybX.binds (ps:=["self","row","k"]) λ_ _ _ _ _ _=>bd3 λ_ _ _=>rfl
 have ydR:dc K yad "tree_in" yaX:=⟨ml,l6,gD⟩;have ybD:=bI (st:=cN) lx lG f_;have ydw:=ybD.binds (ps:=["self","rows","k"]) λ_ _ _ _ _ _=>bd3 λ_ _ _=>rfl
 have ydE:dc K yad "trees_in" yaM:=⟨li,lK,f_⟩;have ybJ:=bI (st:=bZ) j_ jL fO;have yd6:=ybJ.binds (ps:=["self","tree"]) λ_ _ _ _ _ _=>bd2 λ_ _=>rfl
 have yds:dc K yad "number_in" yaS:=⟨jX,kA,fO⟩;have yax:=W.mg_of X G Ez;have xc_TooMany:pR K yaf [.type "ValueError",.type "Exception",.type "BaseException",.type "object"] "ValueError.__new__":=⟨ud⟩;have ya9:XR K yaf:=⟨_,_,_,_,_,_,_,_,⟨ud⟩,PySem.F.excBase_ValueError,rfl,PySem.F.excBase_ValueError⟩;have xt_TooMany:W.XTy K yaf:=⟨zA,y4,zf,zR,zV,Am,Ae,_,_,_,CD⟩;have ybe:=W.mg_of X G ww;have yaL:=W.mg_of X G wB;have yc2:pR K yae [.type "ValueError",.type "Exception",.type "BaseException",.type "object"] "ValueError.__new__":=⟨m_⟩;have xr_QuiltError:XR K yae:=⟨_,_,_,_,_,_,_,_,⟨m_⟩,PySem.F.excBase_ValueError,rfl,PySem.F.excBase_ValueError⟩;have xt_QuiltError:W.XTy K yae:=⟨sR,sV,sX,sW,sG,Am,Ae,_,_,_,vX⟩;have ycJ:oS K yaa yae:=⟨_,_,_,wT,lB⟩;have yd4:oS K yab yae:=⟨_,_,_,rn,jI⟩;have ydP:oS K yac yae:=⟨_,_,_,qH,k_⟩;have ya4:ju K yaa [.type "ValueError",.type "Exception",.type "BaseException",.type "object"] "ValueError.__new__":=yck.out;have yba:ju K yab [.type "ValueError",.type "Exception",.type "BaseException",.type "object"] "ValueError.__new__":=ych.out;have yaJ:ju K yae [.type "ValueError",.type "Exception",.type "BaseException",.type "object"] "ValueError.__new__":=yc2.out;have yat:=a1∣z_ F nb;have yaE:=a2∣yF F nb ya7 ybs yat;have zha:Ch l.prog w K mg base (bG l.prog w) 3 "Rule" "__init__" ["self","name","cost","part_names"] (dG K zfa):=⟨_,_,_,uL zNb nb zEa zza yaE,ycf,ydn,zDf⟩;have zQb:lz l.prog w K mg base (bG l.prog w) 4 "CellRule" zea ["self","name","cost","sign"] (iZ K zfa):=⟨_,_,uP znb nb yaH zEa zza yat zha,zyb,zEg,zQd⟩;have ztb:lz l.prog w K mg base (bG l.prog w) 4 "BesideRule" zaa ["self","name","cost","one","other"] (dD K zfa):=⟨_,_,rY zXa nb zha,zug,zeg,zCc⟩;have zBb:lz l.prog w K mg base (bG l.prog w) 4 "AboveRule" zba ["self","name","cost","one","other"] (dD K zfa):=⟨_,_,sP zgb nb zha,zFg,zvg,zud⟩;have zRb:lz l.prog w K mg base (bG l.prog w) 4 "TurnRule" zca ["self","name","cost","part","turning"] (jl K zfa):=⟨_,_,vz zob nb zEa zza zha,zUg,zGg,zRd⟩;have yaD:pO l.prog w K mg base bL 1 "parts" (n8 K R):=Dc ⟨_,_,_,fJ zOa nb,zKa.cl,zze,zhb⟩ ⟨_,_,_,fJ zOa nb,zJa.cl,zSd,zhb⟩ ⟨_,_,_,fJ zOa nb,zNa.cl,zle,zhb⟩ ⟨_,_,_,fJ zOa nb,zLa.cl,zCe,zhb⟩;have ybi:=a3∣ve F nb ybl yaH yat;have ya8:=a4∣og F nb rk rk4 ybd zyb zua zna ybi yaE;have ybj:=a5∣mq F nb rk yaD;have zJc:lz l.prog w K mg base (bG l.prog w) 4 "Grammar" zga ["self","signs","start","rules"] (ji K R zda):=⟨_,_,u_ zsb nb ybw zua zna ya8 ybj,zeh,zVg,zme⟩;have yag:cg l.prog w K mg base bL 1 zga "rule" ["self","k"] (cr R zga):=⟨_,_,uF zGc nb zIa.cl gk.na,zIa.cl,zGf,zag⟩;have ya3:cg l.prog w K mg base bL 1 zga "many" ["self"] (i7 R zga):=⟨_,_,vk zHc nb zIa.cl gk.na,zIa.cl,zHf,zbg⟩;have yap:cg l.prog w K mg base (bG l.prog w) 1 zga "numbers_of" ["self","name"] (cz R zga yaa):=⟨_,_,mn zkb nb zIa.cl gk.na yau ybn,zIa.cl,zIc,zxd⟩;have ybf:=a6∣CH F nb yai zAb zpb;have ybv:=a7∣DV F nb yai zAb zpb;have ybr:=a8∣Bj F nb;have ybt:=a9∣CU F nb;have ybg:=Lu∣zS F nb ybt;have zEe:=Le∣BT F nb ybr ybg;have ya2:pO l.prog w K mg base (bG l.prog w) 4 "made" (qB K R zia):=Dc ⟨_,_,_,(vj zOb zKa.cl rk.a0.2.2.2).lift.mono nofun,zKa.cl,zSe,zEf⟩ ⟨_,_,_,(rZ zxb ybf).mono nofun,zJa.cl,zke,zAe⟩ ⟨_,_,_,(sI zEb ybv).mono nofun,zNa.cl,zBe,zTe⟩ ⟨_,_,_,(uG zPb zLa.cl rk.a3.2.2.2.2 zEe).lift,zLa.cl,zUe,zFf⟩;have yaZ:=Mc∣lO F nb rk yar yaK yaD yag ya3 m k b 60 nofun;have yaY:=Lw∣DW F nb ya2 yag m k b 18 nofun;have yav:=LJ∣FH F nb yaZ yaY;have yaT:=K0∣lQ F nb m k b 18 nofun;have ybh:=Lj∣x8 F nb nb.sum rk yag yav yaT;have ybp:=Kx∣zK F nb;have yal:=Ma∣BE F;have yaG:=Lc∣rP F nb yal;have yao:pO l.prog w K mg base bL 3 "part_rows" (lL R):=Dc ⟨_,_,_,(vK zib nb zKa.cl rk.a0.2.1).mono nofun,zKa.cl,zDc,zvd⟩ ⟨_,_,_,qA zSa nb zJa.cl ⟨rk.a1.2.1,rk.a1.2.2.2.1,rk.a1.2.2.2.2⟩ yaG,zJa.cl,zGb,zcc⟩ ⟨_,_,_,sO zYa nb zNa.cl ⟨rk.a2.2.1,rk.a2.2.2.2.1,rk.a2.2.2.2.2⟩ yaG,zNa.cl,zdc,zEc⟩ ⟨_,_,_,(v6 zjb nb zLa.cl ⟨rk.a3.2.1,rk.a3.2.2.2.1,rk.a3.2.2.2.2⟩).mono nofun,zLa.cl,zFc,zwd⟩
 have yam:lz l.prog w K mg base bL 1 "TreeRows" yad ["self","grammar"] (fz K):=⟨_,_,zN ybW nb,ycl,ycA,ycD⟩;have yah:=jO (P:=l.prog) (w:=w) (base:=base) (R:=R) ybb ybm ya6 ya5 nb nb.sum yai yaA nt yb2 yb4 ybx ybz ybE ybY ybL ybA yal yap yag yao 17;have yak:=Cy (P:=l.prog) (w:=w) (base:=base) (R:=R) ybb ybm ya6 ya5 nb nb.sum yai yaA nt yb2 yb4 ybx ybz ybE ybY ybL ybA yal yap yag yao;have yay:=o7 (P:=l.prog) (w:=w) (base:=base) (R:=R) ybX ybD nb yaA yaj yaI ydR ydE ydW ydw yah yak 17;have yaB:=Lz∣Ca F nb rk yag yav ybp ybh;have yaU:=lU (P:=l.prog) (w:=w) (base:=base) (R:=R) ybJ nb yaA nt yds yd6 yaB yak yah 16 nofun;have ybk:=L4.cal l.prog w base X G (λ_ F m k b=>qI F nb yaA nt yam yah) (λ_ _ _ _ _ _=>bd5 λ_ _ _ _ _=>rfl);have ybo:=K3.cal l.prog w base X G (λ_ F m k b=>zb F nb yaA nt yam yay) (λ_ _ _ _ _ _=>bd6 λ_ _ _ _ _ _=>rfl);have yaF:=KI∣u5 F nb yaA nt yav yam yaU;have ybc:=LN.cal l.prog w base X G (λ_ F m k b=>xK F nb yaA nt ybe yax ya9 yam yah yay) (λ_ _ _ _ _ _=>bd5 λ_ _ _ _ _=>rfl);have zwa:=LF∣B5 F nb;have zUd:=Mh∣yO F nb zwa;have zVd:=L7∣zW F nb;have zWd:=Lo∣yU F nb;have zFe:=Kw∣BJ F nb rk zQb ztb zBb zRb;have zSb:=LY∣wq F nb gk zFe zJc;have zKc:=Ld∣wA F nb;have zLc:=Lv∣xb F nb;have zTd:=Mn∣zJ F nb;have zec:=Ln.cal l.prog w base X G (λ_ F m k b=>Fc F nb nb.sum zTd) (λ_ _ _ _ _ _=>bd6 λ_ _ _ _ _ _=>rfl);have zGe:=K2∣B9 F nb zec zKc zLc;have zXd:=Kh∣zH F nb zGe;have zTa:=KF∣zw F nb yaL yaJ rfl ya4 ycJ yba yd4 ybc ybo;have zub:=Md∣qo F nb yaj yau yax ydT u1 u2 u3 u4;have zqb:=Mo∣wb F nb yaj yau yax ycI n1 n2 n3;have zzb:=KM∣wy F nb;have zxa:=Lf∣gW F nb zzb m k b 60 nofun;have zIf:=KW∣D8 F nb yaL yar yaj yaJ rfl ya0 ydP ydb ydZ tY t1 t2 yaF;exact Ie FL nb zwa zUd zVd zWd zXd zSb ybk yaF zTa zub zqb zxa zIf
theorem walk{l:W.OpenLaw}{loose:NF}{XP:(Str->Option Value)->Heap->Prop}{YP:World->Heap->Prop}{d:DefRec}{K:Params->W.Frag}(hn:l.most=some 63)(hdf:d.params.defaults=[])
  (hY:∀(w:NH) (h:Heap),YP w h->(K w.params).In h)
  (F:∀(w:NH) (mg:NC) (fa:Addr) (h:Heap),(K w.params).In h->h.Ns mainGlobals mg->mg d.name=some (.ref fa) ->
   ∃fd:FuncData,(∀(s:Ny) (u:Value),BindsTo s fd ⟨[u],[]⟩ [("_law_script",u)])/\∀base:Heap,(K w.params).In base->base.Ns mainGlobals mg->aS l.prog w (K w.params) mg base bL 110 fa fd ["_law_script"] (uM (K w.params))) :
  W.WalkO q loose XP YP l.row.toRowW d [] (λf vs=>PySem.call f vs):=
 L2.walk_of (n:=63) (k:=110) (x:="_law_script") (CX:=λ_=>bL) (sp:=λw=>uM (K w.params)) hn nofun hdf ⟨rfl,nofun,nofun⟩ hY F (λ_ _ a ns hl _ hS=>⟨a,ns,rfl,hS,λ_=>rfl⟩) λ_ _ _ _ _ z=>z
end Q35
open PySem PySem.W PyProof.Rows
local macro_rules | `(tactic| walk_at "kk")=>`(tactic| first | (refine' Q35.fk_mk ?p ?q ?r ?s;(case p=>k_is);(case q=>k_is);(case r=>k_is);(case s=>k_is)) | (refine' Q35.mk_mk ?p ?q ?r ?s;(case p=>k_is);(case q=>k_is);(case r=>k_is);(case s=>k_is)) | k_is | kernel_rfl | rfl | decide +kernel)
set_option maxRecDepth 100000 in
set_option maxHeartbeats 0 in
theorem PySem.Challenge.cw_quiltlaw_k35_numbers_refused_holds : PySem.Challenge.rw_quiltlaw_k35_numbers_refused.Holds := by
 w_on;o_law;k_head;(case hw=>w_witness2)
 k_fill
 refine Q35.walk (l:=PySem.Challenge.rw_quiltlaw_k35_numbers_refused) rfl rfl (λw h Y=>PySem.W.kIn_of Y) ?F
 case F=>
  intro w mg fa h KX G hmg
  apply Q35.all_mk KX G hmg
  all_goals (try walk_at "kk")
