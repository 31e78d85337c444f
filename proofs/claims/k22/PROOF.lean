import PyProof.Rows.All
import Wide.All
import OpenK.AllK
import Wide.FinOn
import Lean
import PyProof.EqAt
import PyProof.EqKinds
import PyProof.TupleCall
import PyProof.CollectIter
import PyProof.JoinWalk
import PyProof.StrOps
import PyProof.ListOps
import PyProof.StrLawsJoin
import KE.KRevIter
import PyProof.StrLawsFirst
import PyProof.Rows.StrNews2
import PyProof.StrLawsTight
import PyProof.StrLawsChain
import KE.KIntText
import KE.IntTextLaws
import PyProof.ListStr
import KE.KDictLaws
import KE.KDictList
import PyProof.Rows.SetFrom
import PyProof.FitsReplace
import KE.KEqDict
import PyProof.Rows.SumAny
import PyProof.Rows.CallKwBuiltin
import PyProof.EnumMake
import PyProof.TupleIter
import PyProof.Rows.TupIter
import PyProof.FactsAll.range_2
import PyProof.AutoSeq1
import PyProof.Rows.Range3
import PyProof.ZipIter
import PyProof.Rows.SortRuns
import PyProof.Rows.SortPure
import PyProof.Rows.SortShell
import PyProof.Rows.SortStr
import PyProof.MeetsSeq3
import KE.KSortTup
import KE.KSortKey
import PySem.Challenge.RW_quiltlaw_k22_each_rule_holds
local macro_rules|`($m:declModifiers def $i:declId $s:optDeclSig $v:declVal)=>do
 if m.raw != (<-`(def x:=0)).raw[0]then Lean.Macro.throwUnsupported
 `(noncomputable def $i $s $v:declVal)
local macro_rules|`($m:declModifiers abbrev $i:declId $s:optDeclSig $v:declVal)=>do
 if m.raw != (<-`(def x:=0)).raw[0]then Lean.Macro.throwUnsupported
 `(noncomputable abbrev $i $s $v:declVal)
local macro_rules|`(command|set_option $o:ident $s:str)=>do
 if o.getId != `tw then Lean.Macro.throwUnsupported
 let n:=s.getString.toList.toArray.map λc=>if c.toNat<64 then c.toNat-35 else if c.toNat<92 then c.toNat-36 else c.toNat-37
 let a<-(List.range (n.size/10)).toArray.mapM λi=>let x:=(List.range 10).foldl (λa j=>a*90+n[10*i+j]!) 0;let y:=Lean.mkIdent (.mkSimple s!"tw{x}");`(command|theorem $y:ident:True:=⟨⟩)
 return Lean.mkNullNode a
namespace PySem.W.Fast
set_option tw "OJlj~1+saTLY`?`Y7Cwe=.Fq5[-R?uB)&iwDJYg+SF)W.*}XUk,7mpb8.%.w3F)P-(T0Je#AI4URZu8R61)kh'_q{'#RYa:/'}Ko54qgkyVwON&Vn3eYHRx-JGY'[y^b-DPqZ/9'$H|5MVQjQZtsN/S4XKxs5gA[Bf%66ymUI>2MqCY4Tkp>;Fe=4-JR6.-a3D8nUxC[0Z.J8P+25UQ/'=>4Z(uQOko*Z|ShK::|vXxmM<snO2D=;qClP8=(%6J&j0Ix-0Q(r]6tXIBu)W)F/N|&Evylf258S*1c[H6?aZk0CovD&=*2*}&$m.J[2m+o>,8sdlxUPc5HDj;w{6h;+m]A^qbzs=4U)1*?=z8a?>dc5l=t4/K&XgqRWw$mD0UCo]4sM;&&hwq[;QC}(*.V|Mg7]F>Gk54z'2;):dZtMGr'pa1ujBo$gNfDJiQoDeLmD%.Krb9MaYFo9?7OV>^IYy#0-ix7DA,'*Ey=KYB=JB)-Q`&Sxm2X)_6*~>CFJZ+&c5xx:ozuNhH_bNcy(#)?yV#}l'b+Ex'b#iW]l7<%6JR6dGBGMP]:V'n<Cv0*kEmA2jS$&j}SIpg+s|JBS8LArx{h<skpJc84YY.?<v3].>*,%Y8^qVdhl,>XXTdRxHnvDMz#F[i_}>)V:9PZp0p^.SkKl-`V0vA2;*D3w-S(M_Ia;`sKoh:>Kl&xqffY+>}_K2d|16OmW=Z3.,wxF8$)P%~w_2Me2jN=P9~E5uV^joQmXx'2qf_cJ<AbS30#z}bm{d9[Xxf$5R{3*>}M6m:>ZH91Bu*aRGMB?*]/hW8D.RC}`E}NIt*-){lxK8k*y#MAhR-1quY%Fm^W8Yz.RX:IDhckFuSR=+iew0e9z=3Xfj<5g#_32?rIN*uP]y97fRUGxZ&{3+teE)#D4o$xxZna1xe+1{e5Mb<OMZ2d]62w`tX+>~AA74*b9P(oX1x8TYKoOke?'Hx;kTGk:TYpu:KgF4?F]n[e2{=;W<o*F/_31u=h~AWdYc:=m=&=|/m0E5YdpQR/Ah13Yq0)&,sA;,=mTbsjU:'RMGnP[{HQ1CC2~~AA*hH.=+$0(=2d$OODbFNCc04o{9-/CKTvHjV*g4t>tO2|=(AI*J;Y7BFK4LhW;vET]}C.MR1M=D,n(FP(5bSX^4nFzFwEF;,kd_b:BzOj]`DUh>v[I,XXVJ=dt6=ztSkA.Wy-*[iXBTs^QDG3/s90di'J2)X>$3HWtXM.k}aZZA`'>sqtDl&$rL3pcDRdHBS;AOL-9`_B(P1ake[uCqt]-OXJq(*CELRb4QN%`vET0trE-(5U.H5=1>Av4A`a2_4<gGI;v7Ly.,{4>l8eND&][Q1.5k,y=aXw[k&+L^7)w_;_ja49/0e|zcp}EAUD)MRmn?A$J|XmQ6p765h2lse~,]3CuQ,(EP]sCDlnQ.dR5w#n}p)uaq|#I(xJ0a7&$#70Z?k#7A.y7$0m_)hCnL5^cA|i-q3)>+[lsK$*Oz'HV+.l#xhb?r]e1ed29:?6MDT_AmOEI-`6jmq9V>ByQR<t{+{pK,rJb]`*z4JB;qKKg%RWO_W4#_QTp$*R%C%E_yX2E~hX6fCq3S2bb$2rt1-G$&0MWg/B]C0>V(ZG<<%|OhK+3X^j;>$RHV}*JtA~?{+cp?8dSbD[6YrA)wc63VY]YWAty.8)xLfzi3FGHczxxBQ(KYITf=t||MVKIS1A]JXW5KQh{}$q,zCj3e5l,9pW8%<vXn|x/tEg>RGc?*BOKk7&')S#}5FPH$DaEjsfUo,dVBOh)1q]46fe,:Qbxs<NK>5pwV]31/8a7N,j#/2eg'dh)Es;8]}ixx+aK5G*&ZR9/l93;<u5Oi,>no$%0OFDth]7,T<5/$AED/8O6zXY97&o%;Qrr=&yzcPr9ou=I,,VLdR6Tcc?}~*BKydtRevt9)%1>>#=&&>h|9A]~_]n?ZJDhwN<n.0{u4#s;q9A&CmKFO1#SGROoS]}:K=UA10SenNLBb't'}D&z'YCS:Qac>,CBM3z5)ChZc%b$;{G^?MOk<4u+x3S|,uAJNi*pogi;^Bl>v}*hCejHsr5nkDz86B;(*iA<Uw=8|(3Rzo'Sy%:E7uNBo/='POXUL/jac:XT6=o)P2i=NHE`QC7re1==j5~kF9JFjc,#YxOIX<bum13]cYT,E[augi*$X*Ka2q`KV+-8LAced($PZ:PAyrnD%ckMOTbxyvL$LHPiA+av(:}(V;mkt^usJG}c)+~s(>]K&1h]}xw(m9CZxPS}LKH4[2nUBD&9%K9_hs:P%wd7w2XHzt6SvH~UX(%Tu`09Gp1c'jGy2OYThCVl]mhMBH9)Xd6G^IW;t/wJB[rQ/yc&5Q_:(P%[aPe;$.,>:taTU[q$^DyaM}leyax,n:iG^mel(#n5S0>Et5GC?f>x/l,[<'r>'tteyCj4e}AA*'W6$EO5pcXXjBpPCVn$eGiEMR>uMu}M}c|MV,K;BU~C~5+con4HZr48T*NeX]0Xt;&=/S5j=;PJaMo]z/j7#L3LmC1{f:F)B:`_R(qXqKLPQ==W-+?::H{{OwDNL>L&>&m=j2%*)+A<<P#WRI$|T.NQo611:}D]KFI[%6Kmg.&WDp)/$~AWW$he+7kMC(P(^wP/UqRR})j4RL[q'N0}{Cc<#*9#7:EP]J_iaEtJ1(5)hJc_0D^_X*n-FA|wpPm1D&kSa}1ey-<to=2j?2B)VAJ$0'?w]1#4O',p+R};){NV4Wlr{QKwt(c6EpVR'S+ham%8&;*]Qr>X$LM/=E}S}`+wf?d8sHz<$2p(CDrn*Vl0dCd'jI7W=(O9(Z6erBoaQ?Ue*(IAvz2Q];X'IRE]~*g*e-*VI*h=5i}]xWUP,F&+,j_f2XEOPm)wpfydC&9cdY$;y7(>][b],ZU2h0y:K$P76*p5//b,8IU|`&>,PF`gWP,HWJPZZtVzpLP=cS|-=kM:]XjHLBZ;z>8gR{{R({QMXk.xt.yez1/-SmKOPTYMKn-S?:f1I1y6PmV[te_FQpVUB$zS/B,&5ge%;'9P1D_%QPKe%6uzK$j*3d#Fc_m60x$e%0muhSl<N*]N&{tIAu~$e5f7+S,a{S#+H6k2oOv^+BSvq9ZMvu%&=ZW(_`+R-:Cv{5fh`-ZFLaNm,nlXVHNtbZ4wUdi4Zq<C[aF-5SMi}kGh,R9)>dj[O_ENlDtvR[PHb[(H]ofs6uDIADCO;.6z7#KGkfFk5F8926%&ROgC$pY5(AP,f7%z8P<(rxy3=eKPW.qO3#[q>Nm4d<~02yxEb<#$tlwX|APexWT/~?xRS5I{?o`SQ,U+ac[V]}C2B7C7O6*WA:A1[CbK=BW<t1R1:[Y)[3$>OzNj$xYRD:g=amY~4,e)v?eg0A<JUDD?;G$.Y#_#=iBD8~U6ls->G6>*k,t7$'z>f+777%:=1Yn+X$}PWT+Z>#XMZ2<bo8~Yg6HGMbQ_y%P6GOqT]im>w9D9CjvCpA-Dxy_e`Vo}}*}-X+N-`0gMcXQ^z<:{eKnr#~8*S0_')'<_15ByD>f~8,NJy,kI3Vt]SO?aeH6PfYyk1N'*`v2?h.Mr5Ay-=lmTX{i32_pX;r~B;DA3d64c{(9=U8^K$1EjN.?n2U~|-Na;Og5om/4<h3T)WSg6QvO1UtjHWi|vODe*WsLW&b`EKk,W`51tW9~n:YCq<,xAbb2*ut2K*.Xh-f'UsK>2?ReF#HO0WA1~8l*E~4`;,UCt0ip5EAh9pO)HccQ(R$#LCU^~.0J7_+6/e#fPg_Td9EUlSKxg2`dzkH<R2T8x2({T$S&~YdJ4hyYM%nxVrcvJ42#t-=~{FYKN_HL-Pn6qk0C;SBjqUC]G4pZ7x]0[]F9]L]X#J9B3i_I6LgRu-SDjp~()W('3Vf5,aba?%'E*`qtz9DgS66*yyjfp+2lI9aZ(1A#)%Kj/t'-u_If7Ys}du8}(oN{~t8G0?HKc6)QVNEu.)p{U^n((H<04KR&(QwV2'm$I9wfiZQ.XN=+0{yoEMU*_4^I4/%mfKZuxlA/QTQE9XRfpe5IR<Cd1f9VFEJlDSjr`m9f,-o>VvBF:z|(}ND^g_(}dy15(x1VC-p?pi<kO8;2z`l'KBM<+mvcr}gO]K;YEs)jV-7GRsd'H~JWXCCa1bPc#`p,)VT.3|*[K~GGQ^.I)V/6*LcSA`8X_lIaBqVM_ABxC>e$bo2f6nNLU(1{e7|Q=H=XkfPl2E1tH:Xvn-Nt)U]hIG_xw6?iG28^)e&j*Nk]9M4)?p=k~n^O7*|v>{xY'`Y2X[:gX'V9k.7tJp56l>8P=*G61&RXoZ7GB<9t|+,=3hDv8]KNIq'x8H;z`YF#]G*KWGxIA^Mr=={<0~<|n9<6-&IpK9sL>>;U&z%c~5P.5B[+}*X34/nSr>`%Eo;_N4+,G%KR%8t93PBE{i97Cuu<itNi3CZ=Z,[%DH=xy<:T]<XL3sVvwy{44k(F=?iI2o:R5N_t_t4+/iHrzeszf%Z}$hFcYU]R<FFqW%#X*mQN>EfKhNnFgu0mm_JQu'zV4I&BkZaWl51&jWR3x#(=Q|dO5dGS%?*_G/c<ir${7[/,xBzQgHK]1^sK<V'0L#2*n:dJ2S?A_TXJ3NXI0C91nqK_Lj.AQ?HfDSCG.jO~FSnNc,IMb]>]1nA2F9V22WcFA`6Nvf2zo2Q*4f^P57(Gn:PCei[~VMI2P=M,P{QI/EK961:mJG([0ndrL-^x}v4Oy2?~F~LE:&>^WBhH*]/6}QA/E}l;S1NdVn3a>]2):8;Nv~[yR`=)VICa63?4LEIP[$]N-<dtTyZJa{5i-&2Y3f~;I|N[^+Hp~eK`Y9_|k-NoJHA{_^`[;F'>InBV*Q5{);>~=W%4_18DXP0N?&VZ7&u'J#a[j}4ylmNLW#7{4a#fCvHN+R/bQ,uHbm,'%U0mei*xZ{7?zV&_x^BR(K^*{HUDLc'l30LIwpVZ'Tz-5uw4/N+V<GSv(48]G&cPS*Y'4y1Vu_Qg*,E#ONd:;-tbdIGgrt]0b%}K(/D~>>OPX:QMiOBO+OY^(CA%r^<<U$(*XcP'K/`v6BL,l3tgnQ2D4=Q<vS4M5el0),;A|A?U_Dgzf;{G%mZ7/aUB8Y']]9jF'kWUO=+yPPzl}G1Xc'p5?m.^I`viSY62SQ;)Yt]|z&YwFa>Eji$I?H1Y>92ji{a;8tszV38,b_Q1Qkw(EgsPJ.(XGe>o?e$pHqNr[KM-/%1DL},SoT+?VEJ9kejk5fH3~b{)gP8BIM5XX7o'9uVTIj6v2k;d8_xy;5&%=J:%[[4U:)O;l92v(Xy+?QwMc,fvVm*g'&ynYmG5$=+HCXVtjN(G}2`%O54B%:{Yty'[QNQ{Vo~6o52-=Sojj2B]afPD`A,oD-6h8Fz$JBJe:6S5j>?ovC5$$UR7-f`H(d<0FAaZJW0.M=v`>m*x.[I&J5o,(c~COjDtuXrksQ??qzHXEd<O,=:?f;*bSlGlj,|Y5A2CKlGAc^^(TrSGu^~'OCG|<X1/;b0dA6-mKlR*,)w8%v}<J=GEj`E~EBtYeE3(Hr2e0Lgb.|2.guyC5j}z,WZ`0H-rSt&oZ5+=A=]_Gm22dAhC*D=lQSJ<1~:DG[68>]:~]RF?/5X'El6+KSKX2`a1X-O8ueszOJbLEpo/^vva%cLE=Z-Rq1:/Ga.WklhYAP.xwebI>k3_81TT,V+b%50vq#}|~t;923E0NKAL}V*/>H4^'1#VR0#=fG>-,eOGzNnsR{?_/w}w)R?P~e>*y4HW/=|P,u6iagj[0i8R~f>BKJRBAg[-~DCAik*6/W3HBlJV4sS{)^+Xty:8M'Ojp[Kf4Z.47<N^{`'ZoD>o|Q7*CSe~UpItOMGGL^WbL%$,*E{pT;=uRCD4Q6DkET6IJ{ePw';/|z?UYO{X%K{xNcm>8(nx^0+lw}wB?-8vLQY[Wy]|w.AcA9h(#;/x6t3bx?LWxE(,n%+'X:2<7aO=M|D,((7e_JxaXr1>G,Pu_MFX?xQyWsBl9e^4G3&3$v~cGAPNBDee7mAn(|RU_;DI2$(+~7-,N9n~Hk8&M2t{Ob7Z'M~W76hUAQ4P>|ke[(<|ptBimF%d5BOI.i?#/GOgQB]]GjcGE<a[x**<(QOxq#E'x)g|HRM9j?HK_>N.r}jfmHl(/k]+O&SoEVQVknQ[NDyX?aHMFs,qPP;E]&2+Lsw3PA=A]cv4[_M87|`7#Jh{7gsSv^R3ZD*h|-fU8O$B'r~]r*W*+m(0O4gtk-ge-1'.ybF)s;=6pMr/^G'#'y1Xy|j#pk-n^ueYVFnO+u0'tv+]l[E*.gVPF+?zL*bxnV9#^G.?zL&2%7=,Cn_56(kBl2A5bx&*R;EGM?bIqLX&$:.83b~vHq#b=VSiwm6`+n-q$LI.C;Xr1/'r|fiSdO$qffeS$#3(QY='XUytyn5'&qBGpFQ>$52T&lrM-bEi/m:{)*orO+gSleO?&l=7aF*jIMT$>IT2g?Cw=<<Ow-EHAWkrN;vIsW/9_4B9]Ldn{O{8NSBhQ7*.$dA&vp*~i{2SCnOKmr/-p*5`n$CMpb#FN{UgZg^u>]9qZ_Z0lsza1BAya<IB0?5}]2y&y%J-?0$_<a,;<P6]_k8sGPnq:%=f+2uH(aP}bLveQI)kHNdd])|g<y08zk[hqOR9E&Q=e`mQ%J.AixC|rAC/GkD^zFn]i1K.ZuI-GY'o4l+6]}'[jD2qt`YLg~~e2tO5q*.R#B*$F8da&1*~%VlL7<c<?&0&|00z&#;lCROH4D4h6A'-~olyD*lQEX(5a_HcW<KH5>R6n#`nER#BW^C$k[=M6o$;5[v^LJ]IaY_t/.9$HBWcoF~bP=?:;t_D.$?TUjStW+Q(1]ebgg6n3G,T3Iz_uMZi"
end PySem.W.Fast
abbrev q04:=@PySem.wpAny_bind
abbrev q05:=@PySem.wpAny_pure
abbrev q06:=@if_neg
abbrev q07:=@if_pos
abbrev q08:=@decide_eq_false
abbrev q09:=@decide_eq_true
abbrev q0A:=@List.getD_eq_getElem?_getD
abbrev q0B:=@List.mem_cons_self
abbrev q0C:=@List.mem_append_right
abbrev q0D:=@List.mem_append_left
abbrev q0E:=@List.take_add_one
abbrev q0F:=@List.take_of_length_le
abbrev q0G:=@Array.getElem?_toList
abbrev q0H:=@List.mem_of_mem_take
abbrev q0I:=@List.mem_of_mem_drop
abbrev q0J:=@List.length_range
abbrev q0K:=@List.map_congr_left
abbrev q0L:=@Option.getD_some
abbrev q0M:=@List.range_succ
abbrev q0N:=@List.length_zip
abbrev q0O:=@Bool.and_eq_true
abbrev q0P:=@Nat.le_of_lt
abbrev q0Q:=@absurd
abbrev q0R:=@congrArg
abbrev q0S:=@Option.some.inj
abbrev q0T:=@List.drop_eq_getElem_cons
abbrev q0U:=@List.filterMap_cons
abbrev q0V:=@Array.toList_append
abbrev q0W:=@PySem.sizeLine_eq
abbrev q0X:=@PySem.wpAny_mono
abbrev q0Y:=@PySem.wpAny_holding
abbrev q0Z:=@List.length_singleton
abbrev q0a:=@Bool.false_eq_true
abbrev q0b:=@decide_eq_true_eq
abbrev q0c:=@List.replicate_succ
abbrev q0d:=@List.nodup_cons
theorem zzl(h:1=1:=by exact Or.inl rfl):1=1:=h
theorem zz0(h:1=1:=by rfl):1=1:=h
theorem zz1(h:1=1:=by decide):1=1:=h
theorem zz2(h:1=1:=by first | exact .inl rfl | exact .inr rfl | assumption):1=1:=h
theorem zz3(h:1=1:=by intro _;rfl):1=1:=h
theorem zz4(h:1=1:=by decide +kernel):1=1:=h
theorem zz5(h:1=1:=by first | exact t_ _ (by decide) (by decide) | rfl):1=1:=h
theorem zz6(h:1=1:=by first | exact Or.inl rfl | exact Or.inr (Or.inl rfl) | exact Or.inr (Or.inr rfl)):1=1:=h
local macro_rules|`(tactic|omega)=>`(tactic|first|lia|omega +splitDisjunctions)
set_option linter.all false
set_option Elab.async false
set_option maxRecDepth 100000
abbrev KW:=PySem.Value->PySem.Shared->Prop
abbrev KY:=PySem.W.Frag
abbrev KZ:=List (PySem.Addr×PySem.Obj)
abbrev K0:=List Nat
abbrev K1:=PySem.Shared
abbrev K2:=List PySem.Value
abbrev K3:=List PySem.Addr
abbrev K4:=PySem.Str->Option PySem.Value
abbrev K5:=PySem.FuncData
abbrev K6:=PySem.Program
abbrev K7:=List PySem.Str
abbrev K8:=PySem.Around
abbrev K9:=PySem.World
abbrev La:=Option PySem.Addr
abbrev Lb:=List PySem.Expr
local macro_rules|`(term|⋯)=>`(by omega)
abbrev JW:=@List.getElem?_eq_getElem
abbrev JX:=@List.getElem?_eq_some_iff
abbrev JY:=@PySem.Heap.get?_push_of_some
abbrev JZ:=@List.length_map
abbrev J0:=@List.mem_singleton
abbrev J1:=@List.getElem?_map
abbrev J2:=@List.mem_of_getElem?
abbrev J3:=@PySem.Heap.get?_update_other
abbrev J4:=@PySem.Heap.get?_push_size
abbrev J5:=@List.size_toArray
abbrev J6:=@List.getElem_mem
abbrev J7:=@Int.toNat_natCast
abbrev J8:=@PySem.Heap.get?_update_self
abbrev J9:=@List.length_cons
abbrev J_:=@List.map_append
abbrev J':=@List.mem_append
abbrev Ka:=@List.map_map
abbrev Kb:=@List.mem_cons
abbrev Kc:=@List.mem_cons_of_mem
abbrev Kd:=@List.length_reverse
abbrev Ke:=@Nat.lt_of_lt_of_le
abbrev Kf:=@Nat.ne_of_lt
abbrev Kg:=@List.getElem?_append_right
abbrev Kh:=@List.getElem?_append_left
abbrev Ki:=@List.length_append
abbrev Kj:=@Nat.le_refl
abbrev Kk:=@Nat.zero_le
abbrev Kl:=@Bool.false_ne_true
abbrev Km:=@PySem.Heap.lt_size
abbrev Kn:=@Option.map_eq_some_iff
abbrev Ko:=@List.getElem?_cons_succ
abbrev Kq:=@List.map_cons
abbrev Ks:=@Nat.le_trans
abbrev Kt:=@Nat.lt_irrefl
abbrev Ku:=@Nat.lt_succ_self
abbrev Kv:=@List.append_nil
abbrev Kw:=@List.append_assoc
abbrev Kx:=@List.getElem?_set_self
abbrev Kz:=@List.take_length
abbrev KA:=@List.length_take
abbrev KC:=@List.length_drop
abbrev KD:=@List.reverse_append
abbrev KF:=@List.reverse_reverse
abbrev KG:=@Nat.lt_of_le_of_lt
abbrev KH:=@List.length_eq_zero_iff
abbrev KI:=@List.mem_map
abbrev KJ:=@List.all_eq_true
abbrev KL:=@Nat.add_le_add_left
abbrev KM:=@List.getElem_toArray
abbrev KN:=@List.nil_append
abbrev KO:=@List.length_set
abbrev KP:=@Int.emod_nonneg
abbrev KQ:=@Int.emod_lt_of_pos
abbrev KR:=@Int.toNat_of_nonneg
abbrev KS:=@Nat.min_eq_left
abbrev KU:=@List.drop_zero
namespace L2
open PySem PySem.Spec PyProof.Rows
abbrev cM:=Sum Int Str
def nA:cM->Value->Bool
 | .inl k,v=>Value.isInt k v
 | .inr x,v=>Value.isStrOf x v
def GB(w:K9):cM->Int
 | .inl k=>hashInt k
 | .inr x=>hashStr w x
theorem cz:∀{k:cM} {v:Value},nA k v=true->(∃i t,k=Sum.inl i/\v=Value.int i t)\/(∃x t,k=Sum.inr x/\v=Value.str x t)
 | .inl i,v,h=>by
  obtain⟨t,e⟩:=Value.isInt_shape (k:=i) (v:=v) h;exact .inl ⟨i,t,rfl,e⟩
 | .inr x,v,h=>by
  obtain⟨t,e⟩:=Value.isStrOf_shape (x:=x) (v:=v) h;exact .inr ⟨x,t,rfl,e⟩
theorem yt(i:Int)(t:Tok):nA (.inl i) (.int i t)=true:=by simp[nA,Value.isInt]
theorem yF(x:Str)(t:Tok):nA (.inr x) (.str x t)=true:=by simp[nA,Value.isStrOf]
theorem El(a b:Int):decide ((Sum.inl a:cM)=Sum.inl b)=(a==b):=by
 by_cases e:a=b
 ·subst e;simp
 ·have h:¬ (Sum.inl a:cM)=Sum.inl b:=λq=>e (Sum.inl.inj q)
  rw[q08 h];exact(beq_eq_false_iff_ne.mpr e).symm
theorem Ee(a b:Str):decide ((Sum.inr a:cM)=Sum.inr b)=decide (a=b):=by
 by_cases e:a=b
 ·subst e;simp
 ·have h:¬ (Sum.inr a:cM)=Sum.inr b:=λq=>e (Sum.inr.inj q)
  rw[q08 h,q08 e]
theorem EJ(a:Int)(b:Str):decide ((Sum.inl a:cM)=Sum.inr b)=false:=q08 (λq=>nomatch q)
theorem DS(a:Str)(b:Int):decide ((Sum.inr a:cM)=Sum.inl b)=false:=q08 (λq=>nomatch q)
def cj(prog:K6)(w:K9):PySem.KeyKind prog w cM where
 is:=nA
 hash:=GB w
 inj:=λv a b ha hb=>by
  rcases cz ha with⟨i,t,rfl,rfl⟩ | ⟨x,t,rfl,rfl⟩
  ·rcases cz hb with⟨j,u,rfl,e⟩ | ⟨y,u,rfl,e⟩
   ·injection e with e1 _;rw[e1]
   ·exact nomatch e
  ·rcases cz hb with⟨j,u,rfl,e⟩ | ⟨y,u,rfl,e⟩
   ·exact nomatch e
   ·injection e with e1 _;rw[e1]
 byValue:=λk v h=>by
  rcases cz h with⟨i,t,rfl,rfl⟩ | ⟨x,t,rfl,rfl⟩<;>rfl
 pyHash:=λhv h=>by
  rcases cz hv with⟨i,t,rfl,rfl⟩ | ⟨x,t,rfl,rfl⟩
  ·exact wpAny_pyHash_int h
  ·exact wpAny_pyHash_str h
 eqBool:=λhu hv h=>by
  rcases cz hu with⟨i,t,rfl,rfl⟩ | ⟨x,t,rfl,rfl⟩
  ·rcases cz hv with⟨j,u,rfl,rfl⟩ | ⟨y,u,rfl,rfl⟩
   ·rw[El]at h;exact wpAny_eqBool_int h
   ·rw[EJ]at h;exact SeqAt.EqAt.int_str i t y u _ _ _ _ h
  ·rcases cz hv with⟨j,u,rfl,rfl⟩ | ⟨y,u,rfl,rfl⟩
   ·rw[DS]at h;exact SeqAt.EqAt.str_int x t j u _ _ _ _ h
   ·rw[Ee]at h;exact wpAny_eqBool_str h
 «strs»:=λk x t v h=>by
  rcases cz h with⟨i,u,rfl,e⟩ | ⟨y,u,rfl,e⟩
  ·exact nomatch e
  ·injection e with e1 _
   subst e1;cases v<;>rfl
theorem uy(prog:K6)(w:K9)(i:Int)(t:Tok):(cj prog w).is (.inl i) (.int i t)=true:=yt i t
theorem uJ(prog:K6)(w:K9)(x:Str)(t:Tok):(cj prog w).is (.inr x) (.str x t)=true:=yF x t
inductive V where
 |non | bl (b:Bool) | int (i:Int) | str (x:Str) | byt (b:Array UInt8) | flt (b:UInt64) | ref (a:Addr) | ty (n:String)
 deriving DecidableEq
def bF:V->Value->Prop
 | .non,u=>u=Value.none
 | .bl b,u=>u=Value.bool b
 | .int i,u=>∃t,u=Value.int i t
 | .str x,u=>∃t,u=Value.str x t
 | .byt b,u=>∃t,u=Value.bytes b t
 | .flt b,u=>∃t,u=Value.float b t
 | .ref a,u=>u=Value.ref a
 | .ty n,u=>u=Value.type n
abbrev bp:List V->List Value->Prop:=Paired bF
theorem bp.length{xs:List V}{us:K2}(r:bp xs us):xs.length=us.length:=Paired.length r
theorem bp.get:∀{xs:List V} {us:K2} {i:Nat} {x:V},bp xs us->xs[i]?=some x->∃u,us[i]?=some u/\bF x u
 |_,_,_,_,.nil,e=>by simp at e
 |_,_,0,_,.cons r _,e=>by simp at e;subst e;exact⟨_,rfl,r⟩
 |_,_,i+1,x,.cons _ t,e=>by
  obtain⟨u,h1,h2⟩:=bp.get (i:=i) (x:=x) t (by simpa using e);exact⟨u,by simpa using h1,h2⟩
theorem bp.set{x:V}{u:Value}(r:bF x u):∀{xs:List V} {us:K2} (i:Nat),bp xs us->bp (xs.set i x) (us.set i u)
 |_,_,_,.nil=>.nil
 |_,_,0,.cons _ t=>.cons r t
 |_,_,i+1,.cons q t=>.cons q (bp.set r i t)
theorem bp.append:∀{xs ys:List V} {us ws:K2},bp xs us->bp ys ws->bp (xs++ys) (us++ws)
 |_,_,_,_,.nil,s=>s
 |_,_,_,_,.cons r t,s=>.cons r (bp.append t s)
theorem bp.take:∀{xs:List V} {us:K2} (n:Nat),bp xs us->bp (xs.take n) (us.take n)
 |_,_,0,_=>.nil
 |_,_,_+1,.nil=>.nil
 |_,_,n+1,.cons r t=>.cons r (bp.take n t)
theorem bp.drop:∀{xs:List V} {us:K2} (n:Nat),bp xs us->bp (xs.drop n) (us.drop n)
 |_,_,0,r=>r
 |_,_,_+1,.nil=>.nil
 |_,_,n+1,.cons _ t=>bp.drop n t
def jh:Option V->Option Value->Prop
 |some v,some u=>bF v u
 |none,none=>True
 |_,_=>False
def KV{κ:Type}:List (κ×V)->List (κ×Value)->Prop:=Paired fun(p:κ×V) (q:κ×Value)=>p.1=q.1/\bF p.2 q.2
def kV:cM->V
 | .inl i=>.int i
 | .inr x=>.str x
inductive HO where
  |lst (xs:List V)
  |tup (xs:List V)
  |dK (kvs:List (cM×V)) | dT (kvs:List (List cM×V))
  |set(S:Int->Bool) (n:Nat)
  |ins (C dx:Addr) (fs:List (Str×V))
  |own (x:Addr)
  |xd (fs:List (Str×V))
  |met (f x:Addr)
  |rng (lo hi:Int)
  |frz (o:Obj) (u:HO)
  |tbl (ps:Array Value)
  |ext (φ:Heap->Prop)
abbrev Hp:=Addr->Option HO
def aD(H:Hp)(a:Addr)(o:HO):Hp:=λb=>if b=a then some o else H b
theorem af{H:Hp}{a:Addr}{o:HO}:aD H a o a=some o:=by unfold aD;rw[q07 rfl]
theorem ar{H:Hp}{a b:Addr}{o:HO}(h:b≠a):aD H a o b=H b:=by unfold aD;rw[q06 h]
theorem j5{H:Hp}{a:Addr}{o u:HO}:aD (aD H a o) a u=aD H a u:=by
 funext b;unfold aD;split<;>rfl
theorem pV{H:Hp}{a b:Addr}{o u:HO}(h:H a=some o)(h':H b=some u)(d:o≠u):a≠b:=by
 intro e;subst e;rw[h]at h';exact d (q0S h')
theorem aI{H:Hp}{a b:Addr}{o:HO}(h:H a=some o)(h':H b=none):a≠b:=by
 intro e;subst e;rw[h]at h';cases h'
section
variable (P:K6)(w:K9)
def ce(H:Hp)(h:Heap)(a:Addr):HO->Prop
 | .lst xs=>xs.length<=sizeLine/\∃(its:K2) (n:Nat),bp xs its/\h.get? a=some {cls:=.type "list",data:=.seq its.toArray n}
 | .tup xs=>xs.length<=sizeLine/\∃its:List Value,bp xs its/\IsTup h a its.toArray
 | .dK kvs=>kvs.length<=sizeLine/\(a==sysModules)=false/\∃vs,KV kvs vs/\h.DictOf (cj P w) a vs
 | .dT kvs=>kvs.length<=sizeLine/\(a==sysModules)=false/\∃xs:List (List cM×Addr×Value),
   Paired (fun(p:List cM×V) (q:List cM×Addr×Value)=>p.1=q.1/\H q.2.1=some (.tup (p.1.map kV))/\bF p.2 q.2.2) kvs xs /\
   ∃o es ep,h.get? a=some o/\o.ExactDict/\o.data=.dict es ep/\es.toList=xs.map (entryOfKey (tupleKind (cj P w)))/\(xs.map (·.1)).Nodup
 | .set S n=>h.SetOf (intKind P w) a S n
 | .ins C dx fs=>H dx=some (.own a)/\fs.length<=1000/\dx≠a/\h.get? a=some (PySem.W.instObj C dx) /\
   ∃mA,h.Ns1 dx mA/\(∀f,jh (fs.lookup f) (mA f))/\PySem.Within mA (fs.map (·.1))
 | .own _=>∃o,h.get? a=some o
 | .xd fs=>∃mA,h.Ns1 a mA/\∀f,jh (fs.lookup f) (mA f)
 | .rng lo hi=>∃t u v,h.get? a=some {cls:=.type "range",data:=.fields #[.int lo t,.int hi u,.int 1 v]}
 | .frz o u=>h.get? a=some o/\ce H h a u
 | .tbl ps=>h.get? a=some {cls:=.none,data:=.fields ps}
 | .met f x=>h.get? a=some (PySem.W.methodObj (.ref f) (.ref x))
 | .ext φ=>φ h/\(∃o,h.get? a=some o)/\∀h1 h2:Heap,φ h1->(∀o,h1.get? a=some o->h2.get? a=some o)->φ h2
def jf(H:Hp)(h:Heap):Prop:=∀a o,H a=some o->ce P w H h a o
end
section
variable {P:K6}{w:K9}{H H':Hp}{h h':Heap}{a:Addr}{o:HO}
theorem ce.lt(x:ce P w H h a o):a<h.objs.size:=by
 cases o with
 |lst xs=>obtain⟨_,_,_,_,e⟩:=x;exact Km e
 |tup xs=>obtain⟨_,_,_,p⟩:=x;exact p.lt
 |dK kvs=>obtain⟨_,_,_,_,o,_,_,e,_⟩:=x;exact Km e
 |dT kvs=>obtain⟨_,_,_,_,o,_,_,e,_⟩:=x;exact Km e
 |set S n=>obtain⟨o,_,_,_,e,_⟩:=x;exact Km e
 |ins C dx fs=>obtain⟨_,_,_,e,_⟩:=x;exact Km e
 |own y=>obtain⟨_,e⟩:=x;exact Km e
 |xd fs=>obtain⟨_,⟨_,_,_,e,_⟩,_⟩:=x;exact Km e
 |rng lo hi=>obtain⟨_,_,_,e⟩:=x;exact Km e
 |frz ob u=>obtain⟨e,_⟩:=x;exact Km e
 |tbl ps=>exact Km (show h.get? a=some _ from x)
 |met f y=>exact Km (show h.get? a=some _ from x)
 |ext φ=>obtain⟨_,⟨_,e⟩,_⟩:=x;exact Km e
theorem Paired.mapP{α β:Type}{F G:α->β->Prop}:∀{l₁:List α} {l₂:List β},Paired F l₁ l₂->(∀a b,F a b->G a b)->Paired G l₁ l₂
 |_,_,.nil,_=>.nil
 |_,_,.cons r t,f=>.cons (f _ _ r) (Paired.mapP t f)
theorem ce.stay(x:ce P w H h a o)(k:∀b u,(b=a\/H b=some (.own a))->h.get? b=some u->h'.get? b=some u)
  (ho:∀b,H b=some (.own a)->H' b=some (.own a)) (ht:∀b xs,H b=some (.tup xs)->H' b=some (.tup xs)):ce P w H' h' a o:=by
 induction o with
 |lst xs=>obtain⟨z,l,n,r,e⟩:=x;exact⟨z,l,n,r,k _ _ (.inl rfl) e⟩
 |tup xs=>obtain⟨z,l,r,g,e,c⟩:=x;exact⟨z,l,r,g,k _ _ (.inl rfl) e,c⟩
 |dK kvs=>obtain⟨z,y,vs,r,g,i,j,e,c⟩:=x;exact⟨z,y,vs,r,g,i,j,k _ _ (.inl rfl) e,c⟩
 |dT kvs=>
  obtain⟨z,y,xs,r,g,i,j,e,c⟩:=x;exact⟨z,y,xs,Paired.mapP r λp q z=>⟨z.1,ht _ _ z.2.1,z.2.2⟩,g,i,j,k _ _ (.inl rfl) e,c⟩
 |set S n=>obtain⟨g,i,j,t,e,c⟩:=x;exact⟨g,i,j,t,k _ _ (.inl rfl) e,c⟩
 |ins C dx fs=>
  obtain⟨d,z,G,e,B,⟨m,i,j,I,c⟩,r⟩:=x;exact⟨ho _ d,z,G,k _ _ (.inl rfl) e,B,⟨m,i,j,k _ _ (.inr d) I,c⟩,r⟩
 |own y=>obtain⟨g,e⟩:=x;exact⟨g,k _ _ (.inl rfl) e⟩
 |xd fs=>obtain⟨B,⟨m,i,j,e,c⟩,r⟩:=x;exact⟨B,⟨m,i,j,k _ _ (.inl rfl) e,c⟩,r⟩
 |rng lo hi=>obtain⟨t,u,v,e⟩:=x;exact⟨t,u,v,k _ _ (.inl rfl) e⟩
 |frz g u ih=>obtain⟨e,q⟩:=x;exact⟨k _ _ (.inl rfl) e,ih q⟩
 |tbl ps=>
  have e:h.get? a=some {cls:=.none,data:=.fields ps}:=x;show h'.get? a=some {cls:=.none,data:=.fields ps};exact k a _ (.inl rfl) e
 |met f y=>
  have e:h.get? a=some (PySem.W.methodObj (.ref f) (.ref y)):=x;show h'.get? a=some (PySem.W.methodObj (.ref f) (.ref y));exact k a _ (.inl rfl) e
 |ext φ=>obtain⟨p,⟨o,e⟩,D⟩:=x;exact⟨D _ _ p λo q=>k _ _ (.inl rfl) q,⟨o,k _ _ (.inl rfl) e⟩,D⟩
theorem jf.lt(x:jf P w H h)(e:H a=some o):a<h.objs.size:=(x a o e).lt
theorem jf.fresh(x:jf P w H h)(e:h.objs.size<=a):H a=none:=by
 cases q:H a with
 |none=>rfl
 |some u=>exact q0Q (Ke (x.lt q) e) (Kt _)
theorem jf.kept(x:jf P w H h)(k:∀b u,h.get? b=some u->h'.get? b=some u):jf P w H h':=λa o e=>
 (x a o e).stay (λb u _ q=>k b u q) (λ_ q=>q) λ_ _ q=>q
theorem jf.laid(x:jf P w H h)(k:∀b u,h.get? b=some u->h'.get? b=some u)(hp:h.objs.size<=a)(new:ce P w (aD H a o) h' a o):jf P w (aD H a o) h':=λb u e=>by
 have hn:=x.fresh hp
 by_cases hb:b=a
 ·subst hb;rw[af]at e;cases e;exact new
 ·rw[ar hb]at e
  exact(x b u e).stay (λc v _ q=>k c v q) (λc q=>by rw[ar (aI q hn)];exact q) λc xs q=>by rw[ar (aI q hn)];exact q
end
def Rd(H:Hp)(a:Addr)(u:HO):Prop:=H a=some u\/∃o,H a=some (.frz o u)
theorem Rd.ok{P:K6}{w:K9}{H:Hp}{h:Heap}{a:Addr}{u:HO}(r:Rd H a u)(x:jf P w H h):ce P w H h a u:=by
 rcases r with r | ⟨o,r⟩
 ·exact x a u r
 ·obtain⟨_,q⟩:=x a _ r
  exact q
def Fa:Option HO->Prop
 |some (.lst _)=>True
 |some (.dK _)=>True
 |some (.dT _)=>True
 |some (.set _ _)=>True
 |some (.ins _ _ _)=>True
 |some (.ext _)=>True
 |_=>False
section
variable {P:K6}{w:K9}{H:Hp}{h h':Heap}{x e:Addr}{o':HO}
theorem jf.write(ok:jf P w H h)(mu:Fa (H x))(he:e=x\/H e=some (.own x))(k:∀b u,b≠e->h.get? b=some u->h'.get? b=some u)(heo:∃u,h'.get? e=some u)
  (new:ce P w (aD H x o') h' x o'):jf P w (aD H x o') h':=λb u q=>by
 have nown:∀c y,H c=some (.own y)->c≠x:=λc y r z=>by subst z;rw[r]at mu;exact mu
 have ntup:∀c xs,H c=some (.tup xs)->c≠x:=λc xs r z=>by subst z;rw[r]at mu;exact mu
 by_cases hb:b=x
 ·subst hb;rw[af]at q;cases q;exact new
 ·rw[ar hb]at q
  by_cases hbe:b=e
  ·have q':H b=some (.own x):=by
    rcases he with z | z
    ·exact q0Q (hbe.trans z) hb
    ·rw[hbe];exact z
   rw[q]at q';cases q'
   obtain⟨v,a⟩:=heo;exact⟨v,by rw[hbe];exact a⟩
  ·refine(ok b u q).stay (λc v hc r=>k c v ?_ r) (λc r=>by rw[ar (nown c b r)];exact r) λc xs r=>by rw[ar (ntup c xs r)];exact r
   rcases hc with rfl | hc
   ·exact hbe
   ·rintro rfl
    rcases he with z | z
    ·exact nown c b hc z
    ·rw[hc]at z;cases z;exact hb rfl
end
structure Un(fs ex:K3)(H H':Hp)(h h':Heap):Prop where
 keep:∀b o,h.get? b=some o->H b=none->b∉fs->b∉ex->h'.get? b=some o
 slot:∀b o,h.get? b=some o->H b=none->b∈fs->b∉ex->∃sl,h'.get? b=some {o with slots:=sl}
 free:∀b o,h.get? b=some o->H b=none->b∉ex->H' b=none
 there:∀b o,h.get? b=some o->b∉ex->∃o',h'.get? b=some o'
 tups:∀b xs,H b=some (.tup xs)->H' b=some (.tup xs)
 frzs:∀b o u,H b=some (.frz o u)->H' b=some (.frz o u)
 tbls:∀b ps,H b=some (.tbl ps)->∃more,H' b=some (.tbl (ps++more))
section
variable {fs fs' ex ex':K3}{H H1 H2:Hp}{h h1 h2 h':Heap}{a x e:Addr}{o:HO}
theorem Un.any(u:Un fs ex H H1 h h1){b:Addr}{ob:Obj}(q:h.get? b=some ob)(n:H b=none)(hx:b∉ex):∃sl,h1.get? b=some {ob with slots:=sl}:=by
 by_cases a:b∈fs
 ·exact u.slot b ob q n a hx
 ·exact⟨ob.slots,u.keep b ob q n a hx⟩
theorem Un.kept(k:∀b u,h.get? b=some u->h'.get? b=some u):Un fs ex H H h h':=
 ⟨λb ob q _ _ _=>k b ob q,λb ob q _ _ _=>⟨ob.slots,k b ob q⟩,λ_ _ _ n _=>n,λb ob q _=>⟨ob,k b ob q⟩,λ_ _ q=>q,λ_ _ _ q=>q,λ_ ps q=>⟨#[],by rw[q];simp⟩⟩
theorem Un.refl:Un fs ex H H h h:=Un.kept λ_ _ q=>q
theorem Un.laid(k:∀b u,h.get? b=some u->h'.get? b=some u)(hp:h.objs.size<=a)(hn:H a=none):Un fs ex H (aD H a o) h h' where
 keep:=λb u q _ _ _=>k b u q
 slot:=λb u q _ _ _=>⟨u.slots,k b u q⟩
 free:=λb u q n _=>by rw[ar (Kf (Ke (Km q) hp))];exact n
 there:=λb u q _=>⟨u,k b u q⟩
 tups:=λb xs q=>by rw[ar (aI q hn)];exact q
 frzs:=λb u xs q=>by rw[ar (aI q hn)];exact q
 tbls:=λb ps q=>⟨#[],by rw[ar (aI q hn),q];simp⟩
theorem Un.write(mu:Fa (H x))(he:e=x\/H e=some (.own x))(k:∀b u,b≠e->h.get? b=some u->h'.get? b=some u)(heo:∃u,h'.get? e=some u):Un fs ex H (aD H x o) h h':=by
 have d:∀b,H b=none->b≠x:=λb n z=>by subst z;rw[n]at mu;exact mu
 have g:∀b,H b=none->b≠e:=λb n z=>by
  subst z;rcases he with r | r
  ·exact d b n r
  ·rw[n]at r;cases r
 have c:∀b u,H b=some u->¬ Fa (some u)->b≠x:=λb u q j z=>by subst z;rw[q]at mu;exact j mu
 refine⟨λb u q n _ _=>k b u (g b n) q,λb u q n _ _=>⟨u.slots,k b u (g b n) q⟩,λb u q n _=>by rw[ar (d b n)];exact n,λb u q _=>?_,
  λb i q=>by rw[ar (c b _ q λz=>z)];exact q,λb u i q=>by rw[ar (c b _ q λz=>z)];exact q,λb ps q=>⟨#[],by rw[ar (c b _ q λz=>z),q];simp⟩⟩
 by_cases a:b=e
 ·subst a;exact heo
 ·exact⟨u,k b u a q⟩
end
def Gg(h:Heap)(H:Hp):List Addr:=(List.range h.objs.size).filter λa=>(H a).isSome
def r9(h:Heap)(H:Hp):Heap:=PySem.W.hideAll h (Gg h H)
theorem yx(h:Heap)(H:Hp):(r9 h H).objs.size=h.objs.size:=PySem.W.hideAll_size _ _
theorem zX{h:Heap}{H:Hp}{b:Addr}{o:Obj}(e:h.get? b=some o)(n:H b=none):(r9 h H).get? b=some o:=
 PySem.W.hideAll_get _ e λhm=>by
  have q:(H b).isSome=true:=(List.mem_filter.mp hm).2;rw[n]at q;simp at q
theorem Dc{h:Heap}{H:Hp}{b:Addr}{o:Obj}(e:(r9 h H).get? b=some o):h.get? b=some o/\H b=none:=by
 have a:h.get? b=some o:=PySem.W.of_hideAll (Gg h H) e;refine⟨a,?_⟩;cases q:H b with
 |none=>rfl
 |some x=>
  have c:b∈Gg h H:=List.mem_filter.mpr ⟨List.mem_range.mpr (Km a),by simp[q]⟩;have z:(r9 h H).get? b=none:=PySem.W.hideAll_none (Gg h H) c;rw[z]at e;cases e
def CW(g h:Heap)(L:Addr):List (Addr×Obj):=(List.range h.objs.size).filterMap λa=>if a=L\/(g.get? a).isSome=true then none else(h.get? a).map λo=>(a,o)
def bY(g h:Heap)(L d:Addr):List (Addr×Obj):=(CW g h L).filter λp=>decide (p.1≠d)
structure Mod(K:KY)(mg:K4)(base:Heap):Prop where
 kin:K.In base
 glob:base.Ns mainGlobals mg
 blt:∃mb,base.Ns builtinsNs mb/\∀x:Str,x≠"__name__"->mb x=bootBuiltins x
 nolimit:base.NoLimit
structure Cx where
 prog:Program
 w:World
 K:PySem.W.Frag
 mg:Str->Option Value
 base:Heap
 A:Around
 N:List Str
 s₀:Shared
 H₀:Hp
 env:Env
 outer:List Env
 stack:List Env
 ex:List Addr
 fn:Str->Bool
 calm:Bool
 pn:List (Addr×Obj)
 xe:Value->Shared->Prop
def vj(l:List Env):List Addr:=l.filterMap (·.frame)
abbrev Cx.fs(X:Cx):List Addr:=vj X.outer
def F_(sc:Scope)(x:Str):Prop:=sc.names.lookup x=some .local\/sc.names.lookup x=some .cell\/sc.names.lookup x=some .free
def Loc(sc:Scope)(x:Str):Prop:=sc.names.lookup x=some .local\/sc.names.lookup x=some .cell
def GO(env:Env)(h:Heap)(m:K4)(x:Str)(u:Value):Prop:=
 (env.kindOf x=some .local/\m x=some u)\/((env.kindOf x=some .cell\/env.kindOf x=some .free)/\∃c,env.cells.lookup x=some c/\h.IsCell c (some u))
structure Cx.Ok(X:Cx):Prop where
 mod:Mod X.K X.mg X.base
 kind:X.env.scope.kind=.function
 glob:X.env.globals=mainGlobals
 blt:X.env.builtins=builtinsNs
 above:X.s₀.heap.objs.size<=X.env.locals
 inj:∀x y c,X.env.cells.lookup x=some c->X.env.cells.lookup y=some c->x=y
 has:∀x,(X.env.kindOf x=some .cell\/X.env.kindOf x=some .free)->∃c,X.env.cells.lookup x=some c
 cab:∀x c,X.fn x=true->X.env.cells.lookup x=some c->X.s₀.heap.objs.size<=c
 hd:X.calm=true->X.A.handled=none
 frames:X.A.frames=some X.stack
 stk:X.stack=X.outer\/(X.stack=X.env::X.outer/\X.env.frame=some X.env.locals)
 exf:∀b∈X.ex,b≠X.env.locals/\∀x c,X.env.cells.lookup x=some c->c≠b
 bs:∀b o,X.base.get? b=some o->X.s₀.heap.get? b=some o/\X.H₀ b=none
 bsz:X.base.objs.size<=X.s₀.heap.objs.size
 noex:∀b o,X.base.get? b=some o->b∉X.ex
 exfs:∀b∈X.ex,b∉X.fs
 funs:X.s₀.heap.FunFrames X.base X.outer
 frf:∀b∈X.fs,X.H₀ b=none
structure Inv(X:Cx)(pins:KZ)(σ:List (Option V))(H:Hp)(s:K1):Prop where
 ok:X.Ok
 os:s.os=X.s₀.os
 bare:AllBare s.gens
 base:Un X.fs X.ex X.H₀ H X.s₀.heap s.heap
 loc:∃m,s.heap.Ns X.env.locals m/\∀(i:Nat) (x:Str) (v:V),X.N[i]?=some x->σ[i]?=some (some v)->F_ X.env.scope x->∃u,bF v u/\GO X.env s.heap m x u
 cell:∀x c,X.env.cells.lookup x=some c->∃v,s.heap.IsCell c v
 free:H X.env.locals=none
 freeC:∀x c,X.env.cells.lookup x=some c->H c=none
 pin:∀p∈X.pn++pins,s.heap.get? p.1=some p.2/\H p.1=none/\p.1≠X.env.locals/\p.1∉X.fs/\∀v,p.2.data≠.cell v
 hok:jf X.prog X.w H s.heap
 len:σ.length=X.N.length
section
variable {X:Cx}{pins:KZ}{σ:List (Option V)}{H H':Hp}{s:K1}{h':Heap}
theorem Cx.Ok.nofr(ok:X.Ok){b:Addr}{o:Obj}(e:X.base.get? b=some o):b∉X.fs:=λhb=>by
 have:=(ok.funs.mem hb).1;rw[e]at this;cases this
theorem Inv.bs(I:Inv X pins σ H s):∀b o,X.base.get? b=some o->s.heap.get? b=some o/\H b=none:=λb o e=>
 ⟨I.base.keep b o (I.ok.bs b o e).1 (I.ok.bs b o e).2 (I.ok.nofr e) (I.ok.noex b o e),I.base.free b o (I.ok.bs b o e).1 (I.ok.bs b o e).2 (I.ok.noex b o e)⟩
theorem Inv.bk(I:Inv X pins σ H s):∀b o,X.base.get? b=some o->s.heap.get? b=some o:=λb o e=>(I.bs b o e).1
theorem Inv.mod(I:Inv X pins σ H s):Mod X.K X.mg X.base:=I.ok.mod
theorem Inv.kIn(I:Inv X pins σ H s):X.K.In s.heap:=I.ok.mod.kin.keeps I.bk
theorem Inv.lt(I:Inv X pins σ H s):X.env.locals<s.heap.objs.size:=let ⟨_,hn,_⟩:=I.loc;hn.lt
theorem Inv.sz(I:Inv X pins σ H s):X.s₀.heap.objs.size<=s.heap.objs.size:=Ks I.ok.above (q0P I.lt)
theorem Inv.nofs(I:Inv X pins σ H s){a:Addr}(h:s.heap.objs.size<=a):a∉X.fs:=λhb=>by
 obtain⟨_,o,ho,_⟩:=I.ok.funs.mem hb;exact q0Q (Ke (Km ho) (Ks I.sz h)) (Kt _)
theorem Inv.cne(I:Inv X pins σ H s):∀x c,X.env.cells.lookup x=some c->c≠X.env.locals:=λx c e z=>by
 obtain⟨v,o,ho,hd⟩:=I.cell x c e;obtain⟨m,⟨o',es,ep,ho',hd',_⟩,_⟩:=I.loc;rw[z,ho']at ho;cases ho;rw[hd']at hd;cases hd
theorem Inv.funs(I:Inv X pins σ H s):s.heap.FunFrames X.base X.outer:=by
 have all:∀(l:List Env),(∀b∈vj l,b∈X.fs)->X.s₀.heap.FunFrames X.base l->s.heap.FunFrames X.base l:=by
  intro l
  induction l with
  |nil=>intro _ _;trivial
  |cons env r ih=>
   intro g k;obtain⟨m,⟨L,o,a,j,i,n⟩,hr⟩:=k;have d:L∈X.fs:=g L (by unfold vj;rw[q0U,a];exact q0B);obtain⟨sl,e⟩:=I.base.slot L o i (I.ok.frf L d) d λz=>I.ok.exfs L z d;exact⟨m,⟨L,_,a,j,e,n⟩,ih (λb c=>g b (by unfold vj;rw[q0U,a];exact Kc _ c)) hr⟩
 exact all X.outer (λ_ c=>c) I.ok.funs
theorem Inv.stack(I:Inv X pins σ H s):s.heap.FunFrames X.base X.stack:=by
 rcases I.ok.stk with e | ⟨e,b⟩
 ·rw[e];exact I.funs
 ·rw[e]
  obtain⟨m,a,_⟩:=I.loc;refine .cons (by rw[I.ok.kind];decide) b a ?_ I.funs;exact Heap.get?_none_of_le (Ks I.ok.bsz I.ok.above)
theorem Inv.stkSub(I:Inv X pins σ H s):∀b∈vj X.stack,b∈X.env.locals::X.fs:=λb hb=>by
 rcases I.ok.stk with e | ⟨e,hf⟩
 ·rw[e]at hb;exact Kc _ hb
 ·rw[e]at hb
  unfold vj at hb;rw[q0U,hf]at hb;exact hb
theorem Inv.stkFree(I:Inv X pins σ H s):∀b∈vj X.stack,H b=none:=λb hb=>by
 rcases Kb.mp (I.stkSub b hb) with e | hb
 ·rw[e];exact I.free
 ·obtain⟨_,o,ho,_⟩:=I.ok.funs.mem hb
  exact I.base.free b o ho (I.ok.frf b hb) λz=>I.ok.exfs b z hb
theorem Inv.step{g':Array GenState}{t':Nat}{d':Drawn}{ch:K3}(I:Inv X pins σ H s)
  (hch:∀b∈ch,(b∈X.ex\/X.s₀.heap.objs.size<=b)/\b≠X.env.locals/\(∀x c,X.env.cells.lookup x=some c->c≠b)/\∀p∈X.pn++pins,p.1≠b)
  (keep:∀b o,b≠X.env.locals->b∉X.fs->b∉ch->s.heap.get? b=some o->H b=none->h'.get? b=some o)
  (slot:∀b o,b≠X.env.locals->b∈X.fs->b∉ch->s.heap.get? b=some o->H b=none->∃sl,h'.get? b=some {o with slots:=sl}) (free:∀b o,b∉ch->s.heap.get? b=some o->H b=none->H' b=none)
  (there:∀b o,b∉ch->s.heap.get? b=some o->∃o',h'.get? b=some o')
  (tups:∀b xs,H b=some (.tup xs)->H' b=some (.tup xs)) (frzs:∀b o u,H b=some (.frz o u)->H' b=some (.frz o u)) (tbls:∀b ps,H b=some (.tbl ps)->∃more,H' b=some (.tbl (ps++more)))
  (ns:∀m,s.heap.Ns X.env.locals m->h'.Ns X.env.locals m) (hok:jf X.prog X.w H' h') (hg:AllBare g') :
  Inv X pins σ H' {s with heap:=h',gens:=g',drawn:=d',toks:=t' }:=by
 have D:∀b o,X.s₀.heap.get? b=some o->b≠X.env.locals:=λb o e=>Kf (Ke (Km e) I.ok.above);have w:∀b o,X.s₀.heap.get? b=some o->b∉X.ex->b∉ch:=λb o e a B=>by
  rcases(hch b B).1 with z | z
  ·exact a z
  ·exact q0Q (Ke (Km e) z) (Kt _)
 have j:∀x c,X.env.cells.lookup x=some c->∀v,s.heap.IsCell c v->h'.IsCell c v:=λx c e v ⟨o,C,L⟩=>by
  have g:c∉ch:=λz=>(hch c z).2.2.1 x c e rfl
  by_cases S:c∈X.fs
  ·obtain⟨sl,q⟩:=slot c o (I.cne x c e) S g C (I.freeC x c e)
   exact⟨_,q,L⟩
  ·exact⟨o,keep c o (I.cne x c e) S g C (I.freeC x c e),L⟩
 refine⟨I.ok,I.os,hg,⟨λb o e n B a=>?_,λb o e n B a=>?_,λb o e n a=>?_,λb o e a=>?_,λb xs e=>tups b xs (I.base.tups b xs e),λb o xs e=>frzs b o xs (I.base.frzs b o xs e),λb ps e=>?_⟩,?_,λx c e=>?_,?_,λx c e=>?_,λp R=>?_,hok,I.len⟩
 ·exact keep b o (D b o e) B (w b o e a) (I.base.keep b o e n B a) (I.base.free b o e n a)
 ·obtain⟨sl,y⟩:=I.base.slot b o e n B a
  obtain⟨J,G⟩:=slot b _ (D b o e) B (w b o e a) y (I.base.free b o e n a);exact⟨J,G⟩
 ·obtain⟨o',y⟩:=I.base.there b o e a
  exact free b o' (w b o e a) y (I.base.free b o e n a)
 ·obtain⟨o',y⟩:=I.base.there b o e a
  exact there b o' (w b o e a) y
 ·obtain⟨m1,y⟩:=I.base.tbls b ps e
  obtain⟨T,G⟩:=tbls b _ y;exact⟨m1++T,by rw[G,Array.append_assoc]⟩
 ·obtain⟨m,U,Y⟩:=I.loc
  refine⟨m,ns m U,λi x v y G Z=>?_⟩;obtain⟨u,r,l⟩:=Y i x v y G Z;refine⟨u,r,?_⟩;rcases l with l | ⟨k,c,e,z⟩
  ·exact .inl l
  ·exact .inr ⟨k,c,e,j x c e _ z⟩
 ·obtain⟨v,z⟩:=I.cell x c e
  exact⟨v,j x c e v z⟩
 ·obtain⟨m,⟨o,_,_,C,_⟩,_⟩:=I.loc
  exact free _ o (λz=>(hch _ z).2.1 rfl) C I.free
 ·obtain⟨v,o,C,L⟩:=I.cell x c e
  exact free c o (λz=>(hch c z).2.2.1 x c e rfl) C (I.freeC x c e)
 ·obtain⟨e,n,O,M,d⟩:=I.pin p R
  have g:p.1∉ch:=λz=>(hch p.1 z).2.2.2 p R rfl;exact⟨keep p.1 p.2 O M g e n,free p.1 p.2 g e n,O,M,d⟩
theorem Inv.un{t':Nat}(I:Inv X pins σ H s)(u:Un X.fs [] H H' s.heap h')(hok:jf X.prog X.w H' h'):Inv X pins σ H' {s with heap:=h',toks:=t' }:=by
 obtain⟨m,⟨o,es,ep,i,r⟩,_⟩:=id I.loc;obtain⟨sl,l⟩:=u.any i I.free (by simp);exact I.step (g':=s.gens) (d':=s.drawn) (ch:=[]) (λ_ z=>nomatch z) (λb o _ c _ e n=>u.keep b o e n c (by simp)) (λb o _ c _ e n=>u.slot b o e n c (by simp)) (λb o _ e n=>u.free b o e n (by simp)) (λb o _ e=>u.there b o e (by simp)) u.tups u.frzs u.tbls (λm' k=>by
  obtain⟨o',d,g,a,j⟩:=k;rw[i]at a;cases a
  exact⟨_,d,g,l,j⟩) hok I.bare
theorem Inv.call{g':Array GenState}{t':Nat}{d':Drawn}{ch:K3}(I:Inv X pins σ H s)(u:Un (vj X.stack) ch H H' s.heap h')(hok:jf X.prog X.w H' h')(hg:AllBare g')
  (hch:∀b∈ch,(b∈X.ex\/X.s₀.heap.objs.size<=b)/\b≠X.env.locals/\(∀x c,X.env.cells.lookup x=some c->c≠b)/\∀p∈X.pn++pins,p.1≠b) :
  Inv X pins σ H' {s with heap:=h',gens:=g',drawn:=d',toks:=t' }:=by
 obtain⟨m,⟨o,es,ep,k,r⟩,_⟩:=id I.loc;obtain⟨sl,g⟩:=u.any k I.free λz=>(hch _ z).2.1 rfl;exact I.step (ch:=ch) hch (λb o g v a e n=>u.keep b o e n (λz=>(Kb.mp (I.stkSub b z)).elim g v) a) (λb o _ _ a e n=>u.any e n a) (λb o a e n=>u.free b o e n a) (λb o a e=>u.there b o e a) u.tups u.frzs u.tbls (λm' q=>by
  obtain⟨o',i,j,d,l⟩:=q;rw[k]at d;cases d
  exact⟨_,i,j,g,l⟩) hok hg
theorem Inv.turned{t':Nat}{it:Addr}(I:Inv X pins σ H s)(k:∀b o,b≠it->s.heap.get? b=some o->h'.get? b=some o)(hn:H it=none)(hL:it≠X.env.locals)
  (h1:it∈X.ex\/X.s₀.heap.objs.size<=it) (h2:∀x c,X.env.cells.lookup x=some c->c≠it) (h3:∀p∈X.pn++pins,p.1≠it):Inv X pins σ H {s with heap:=h',toks:=t' }:=by
 have d:∀b u,H b=some u->b≠it:=λb u e z=>by rw[z,hn]at e;cases e
 refine I.step (g':=s.gens) (d':=s.drawn) (ch:=[it]) (λb j=>?_) (λb o _ _ a e _=>k b o (λz=>a (by simp[z])) e) (λb o _ _ a e _=>⟨o.slots,k b o (λz=>a (by simp[z])) e⟩) (λ_ _ _ _ n=>n)
  (λb o a e=>⟨o,k b o (λz=>a (by simp[z])) e⟩) (λ_ _ e=>e) (λ_ _ _ e=>e) (λb ps e=>⟨#[],by rw[e];simp⟩) (λm i=>?_) (λb u e=>?_) I.bare
 ·have e:b=it:=by simpa using j
  subst e;exact⟨h1,hL,h2,h3⟩
 ·obtain⟨o,l,w,g,r⟩:=i
  exact⟨o,l,w,k _ o (Ne.symm hL) g,r⟩
 ·refine(I.hok b u e).stay (λc v a q=>k c v ?_ q) (λ_ q=>q) λ_ _ q=>q
  rcases a with z | z
  ·rw[z];exact d b u e
  ·exact d c _ z
theorem Inv.tok(I:Inv X pins σ H s)(t:Nat):Inv X pins σ H {s with toks:=t}:=I.un (h':=s.heap) (t':=t) Un.refl I.hok
theorem Inv.kept{t':Nat}(I:Inv X pins σ H s)(k:∀b u,s.heap.get? b=some u->h'.get? b=some u):Inv X pins σ H {s with heap:=h',toks:=t' }:=I.un (Un.kept k) (I.hok.kept k)
theorem Inv.laid{a:Addr}{o:HO}{t':Nat}(I:Inv X pins σ H s)(k:∀b u,s.heap.get? b=some u->h'.get? b=some u)(hp:s.heap.objs.size<=a)(new:ce X.prog X.w (aD H a o) h' a o) :
  Inv X pins σ (aD H a o) {s with heap:=h',toks:=t' }:=I.un (Un.laid k hp (I.hok.fresh hp)) (I.hok.laid k hp new)
theorem Inv.write{x e:Addr}{o:HO}{t':Nat}(I:Inv X pins σ H s)(mu:Fa (H x))(he:e=x\/H e=some (.own x))(k:∀b u,b≠e->s.heap.get? b=some u->h'.get? b=some u)(heo:∃u,h'.get? e=some u)
  (new:ce X.prog X.w (aD H x o) h' x o):Inv X pins σ (aD H x o) {s with heap:=h',toks:=t' }:=I.un (Un.write mu he k heo) (I.hok.write mu he k heo new)
theorem Inv.pins_of{pins':KZ}(I:Inv X pins σ H s)(h:∀p∈pins',s.heap.get? p.1=some p.2/\H p.1=none/\p.1≠X.env.locals/\p.1∉X.fs/\∀v,p.2.data≠.cell v):Inv X pins' σ H s:=
 ⟨I.ok,I.os,I.bare,I.base,I.loc,I.cell,I.free,I.freeC,λp hp=>(J'.mp hp).elim (λz=>I.pin p (q0D _ z)) (h p),I.hok,I.len⟩
theorem ux{N:K7}(hN:N.Nodup){i j:Nat}{x:Str}(a:N[i]?=some x)(b:N[j]?=some x):i=j:=by
 obtain⟨h1,d⟩:=JX.mp a;obtain⟨h2,c⟩:=JX.mp b;exact(List.getElem_inj hN).mp (d.trans c.symm)
theorem qC{M:Model}{A:K8}{E:KW}{i:Nat}{x:Str}{v:V}{u:Value}{Q:Unit->Shared->Prop}(I:Inv X pins σ H s)(hN:X.N.Nodup)(hi:X.N[i]?=some x)(hx:Loc X.env.scope x)(r:bF v u)
  (h:∀s',Inv X pins (σ.set i (some v)) H s'->(∃a,Heap.SameBut a s.heap s'.heap/\(a=X.env.locals\/X.env.cells.lookup x=some a))->Q () s') (hf:autoParam (X.fn x=true\/X.env.scope.names.lookup x=some .local) zz2._auto_1):wpAny M A (storeName X.env x u) Q E s:=by
 obtain⟨m,hn,hl⟩:=id I.loc;have U:(X.env.scope.kind==.class||(X.env.scope.kind==.module&&X.env.locals != X.env.globals))=false:=by rw[I.ok.kind];rfl
 have T:i<σ.length:=by rw[I.len];exact(JX.mp hi).1
 have cne:=I.cne;have l:∀{a:Addr} {O:Heap},(∃o,s.heap.get? a=some o/\H a=none)->Heap.SameBut a s.heap O->jf X.prog X.w H O:=fun{a O} ha g b ob e=>by
  obtain⟨_,_,C⟩:=ha;refine(I.hok b ob e).stay (λc w' hc q=>(g.2 c ?_).trans q) (λ_ q=>q) λ_ _ q=>q;rintro rfl;rcases hc with rfl | hc
  ·rw[C]at e;cases e
  ·rw[C]at hc;cases hc
 rcases hx with hk | hk
 ·refine wpAny_storeName_local hk hn (λO a1 g=>?_) U
  obtain⟨oL,_,_,a0,_⟩:=id hn;refine h _ ⟨I.ok,I.os,I.bare,⟨λb o e n L hx=>?_,λb o e n L hx=>?_,I.base.free,λb o e hx=>?_,I.base.tups,I.base.frzs,I.base.tbls⟩,⟨_,a1,λj y v' B D e3=>?_⟩,λy c e=>?_,I.free,I.freeC,λp hp=>?_,l ⟨oL,a0,I.free⟩ g,by simpa using I.len⟩ ⟨_,g,.inl rfl⟩
  ·exact(g.2 b (Kf (Ke (Km e) I.ok.above))).trans (I.base.keep b o e n L hx)
  ·obtain⟨sl,B⟩:=I.base.slot b o e n L hx
   exact⟨sl,(g.2 b (Kf (Ke (Km e) I.ok.above))).trans B⟩
  ·obtain⟨o',B⟩:=I.base.there b o e hx
   exact⟨o',(g.2 b (Kf (Ke (Km e) I.ok.above))).trans B⟩
  ·by_cases G:j=i
   ·subst G
    rw[hi]at B;cases B
    rw[Kx T]at D;cases D;exact⟨u,r,.inl ⟨hk,by simp⟩⟩
   ·rw[List.getElem?_set_ne (Ne.symm G)]at D
    obtain⟨u',r',q⟩:=hl j y v' B D e3;refine⟨u',r',?_⟩;rcases q with⟨k,e⟩ | ⟨k,c,e,z⟩
    ·refine .inl ⟨k,?_⟩
     have:y≠x:=λe=>G (ux hN B (e▸hi));simp[this,e]
    ·exact .inr ⟨k,c,e,z.sameBut g (cne y c e)⟩
  ·obtain⟨w',z⟩:=I.cell y c e
   exact⟨w',z.sameBut g (cne y c e)⟩
  ·obtain⟨e,n,ne,nf,d⟩:=I.pin p hp
   exact⟨(g.2 p.1 ne).trans e,n,ne,nf,d⟩
 ·have J:X.fn x=true:=by
   rcases hf with z | z
   ·exact z
   ·rw[z]at hk;cases hk
  obtain⟨c,hc⟩:=I.ok.has x (.inl hk);obtain⟨w',z⟩:=I.cell x c hc;refine wpAny_storeName_cell I.ok.kind hk hc z (λO Z g=>?_);obtain⟨oc,S,R⟩:=id z;refine h {s with heap:=O } ⟨I.ok,I.os,I.bare,⟨λb o e n L hx=>?_,λb o e n L hx=>?_,I.base.free,λb o e hx=>?_,I.base.tups,I.base.frzs,I.base.tbls⟩,⟨m,hn.sameBut g (Ne.symm (cne x c hc)),λj y v' B D e3=>?_⟩,λy c' e=>?_,I.free,I.freeC,λp hp=>?_,l ⟨oc,S,I.freeC x c hc⟩ g,by simpa using I.len⟩ ⟨c,g,.inr hc⟩
  ·exact(g.2 b (Kf (Ke (Km e) (I.ok.cab x c J hc)))).trans (I.base.keep b o e n L hx)
  ·obtain⟨sl,B⟩:=I.base.slot b o e n L hx
   exact⟨sl,(g.2 b (Kf (Ke (Km e) (I.ok.cab x c J hc)))).trans B⟩
  ·obtain⟨o',B⟩:=I.base.there b o e hx
   exact⟨o',(g.2 b (Kf (Ke (Km e) (I.ok.cab x c J hc)))).trans B⟩
  ·by_cases G:j=i
   ·subst G
    rw[hi]at B;cases B
    rw[Kx T]at D;cases D;exact⟨u,r,.inr ⟨.inl hk,c,hc,Z⟩⟩
   ·rw[List.getElem?_set_ne (Ne.symm G)]at D
    obtain⟨u',r',q⟩:=hl j y v' B D e3;refine⟨u',r',?_⟩;rcases q with q | ⟨k,c',e,z'⟩
    ·exact .inl q
    ·refine .inr ⟨k,c',e,z'.sameBut g ?_⟩
     rintro rfl;exact G (ux hN B (I.ok.inj _ _ _ e hc▸hi))
  ·by_cases Y:c'=c
   ·subst Y;exact⟨_,Z⟩
   ·obtain⟨w2,z2⟩:=I.cell y c' e
    exact⟨w2,z2.sameBut g Y⟩
  ·obtain⟨e,n,ne,nf,d⟩:=I.pin p hp
   refine⟨(g.2 p.1 ?_).trans e,n,ne,nf,d⟩;intro q;rw[q,S]at e;have q':oc=p.2:=q0S e;exact d w' (by rw[<- q'];exact R)
theorem vd{M:Model}{A:K8}{E:KW}{i:Nat}{x:Str}{v:V}{u:Value}{Q:Unit->Shared->Prop}(I:Inv X pins σ H s)(hN:X.N.Nodup)(hi:X.N[i]?=some x)(hx:Loc X.env.scope x)(r:bF v u)
  (h:∀s',Inv X pins (σ.set i (some v)) H s'->Q () s') (hf:autoParam (X.fn x=true\/X.env.scope.names.lookup x=some .local) zz2._auto_1):wpAny M A (storeName X.env x u) Q E s:=
 qC I hN hi hx r (λs' I' _=>h s' I') hf
theorem Inv.call'{s':K1}{ch:K3}(I:Inv X pins σ H s)(ho:s'.os=s.os)(u:Un (vj X.stack) ch H H' s.heap s'.heap)(hok:jf X.prog X.w H' s'.heap)(hg:AllBare s'.gens)
  (hch:∀b∈ch,(b∈X.ex\/X.s₀.heap.objs.size<=b)/\b≠X.env.locals/\(∀x c,X.env.cells.lookup x=some c->c≠b)/\∀p∈X.pn++pins,p.1≠b):Inv X pins σ H' s':=by
 obtain⟨h',g',d',t',a⟩:=s';have e:a=s.os:=ho;subst e;exact I.call (g':=g') (t':=t') (d':=d') u hok hg hch
end
abbrev XK:=Value->Option Addr->Hp->Prop
abbrev St:=List (Option V)
abbrev VK:=V->Hp->Prop
abbrev TE:=St->Hp->VK->Prop
abbrev TT:=St->Hp->(Bool->Hp->Prop)->Prop
abbrev TA:=St->Hp->(List V->Hp->Prop)->Prop
structure g_ where
 nx:St->Hp->Prop
 rt:VK
 bk:St->Hp->Prop:=λ_ _=>False
 ct:St->Hp->Prop:=λ_ _=>False
abbrev TS:=g_->St->Hp->Prop
def EP(X:Cx)(pins:KZ)(σ:St)(Q:VK)(u:Value)(s':K1):Prop:=∃v H',Inv X pins σ H' s'/\bF v u/\Q v H'
def TP(X:Cx)(pins:KZ)(σ:St)(Q:Bool->Hp->Prop)(b:Bool)(s':K1):Prop:=∃H',Inv X pins σ H' s'/\Q b H'
def AP(X:Cx)(pins:KZ)(σ:St)(Q:List V->Hp->Prop)(us:K2)(s':K1):Prop:=∃vs H',Inv X pins σ H' s'/\bp vs us/\Q vs H'
def SP(X:Cx)(pins:KZ)(D:g_)(f:Flow)(s':K1):Prop:=
 match f with
 | .next=>∃σ' H',Inv X pins σ' H' s'/\D.nx σ' H'
 | .brk=>∃σ' H',Inv X pins σ' H' s'/\D.bk σ' H'
 | .cont=>∃σ' H',Inv X pins σ' H' s'/\D.ct σ' H'
 | .ret u=>∃v σ' H',Inv X pins σ' H' s'/\bF v u/\D.rt v H'
def PE(X:Cx)(e:Expr)(t:TE):Prop:=
 ∀(pins:KZ) (s:K1) (σ:St) (H:Hp) (Q:VK),Inv X pins σ H s->t σ H Q->wpAny (model X.prog X.w) X.A (eval e X.env) (EP X pins σ Q) X.xe s
def PT(X:Cx)(e:Expr)(t:TT):Prop:=
 ∀(pins:KZ) (s:K1) (σ:St) (H:Hp) (Q:Bool->Hp->Prop),Inv X pins σ H s->t σ H Q->wpAny (model X.prog X.w) X.A (isTrue e X.env (eval e X.env)) (TP X pins σ Q) X.xe s
def PW(X:Cx)(e:Expr)(t:TT):Prop:=
 ∀(whole:Sem Value) (pins:KZ) (s:K1) (σ:St) (H:Hp) (Q:Bool->Hp->Prop),Inv X pins σ H s->t σ H Q->wpAny (model X.prog X.w) X.A (isTrue e X.env whole) (TP X pins σ Q) X.xe s
theorem PW.pt{X:Cx}{e:Expr}{t:TT}(h:PW X e t):PT X e t:=h _
def PA(X:Cx)(es:Lb)(t:TA):Prop:=
 ∀(pos:Pos) (pins:KZ) (s:K1) (σ:St) (H:Hp) (Q:List V->Hp->Prop),Inv X pins σ H s->t σ H Q->wpAny (model X.prog X.w) X.A (spliced (backTo pos (starEach es X.env))) (AP X pins σ Q) X.xe s
def PS(X:Cx)(st:Stmt)(t:TS):Prop:=
 ∀(pins:KZ) (s:K1) (σ:St) (H:Hp) (D:g_),Inv X pins σ H s->t D σ H->wpAny (model X.prog X.w) X.A (exec st X.env) (SP X pins D) X.xe s
def wJ(X:Cx)(st:List Stmt)(t:TS):Prop:=
 ∀(pins:KZ) (s:K1) (σ:St) (H:Hp) (D:g_),Inv X pins σ H s->t D σ H->wpAny (model X.prog X.w) X.A (execs st X.env) (SP X pins D) X.xe s
theorem cq{α:Type}{t:Sem α}{Q Q':α->Shared->Prop}{M:Model}{A:K8}{E:KW}{s:K1}(h:wpAny M A t Q E s)(hQ:∀a s,Q a s->Q' a s):wpAny M A t Q' E s:=q0X h hQ λ_ _ x=>x
section
variable {X:Cx}
def Bv(i:Nat):TE:=λσ H Q=>∃v,σ[i]?=some (some v)/\Q v H
def tC(v:V):TE:=λ_ H Q=>Q v H
theorem EF{i:Nat}{x:Str}{pos:Pos}(hN:X.N[i]?=some x)(hv:F_ X.env.scope x)(hd:autoParam ((x==("__debug__":Str))=false) zz1._auto_1)(hcd:autoParam ((x==("__classdict__":Str))=false) zz1._auto_1):PE X (.Name x pos) (Bv i):=by
 intro b s σ H Q I h;obtain⟨v,e,h⟩:=h;obtain⟨m,g,k⟩:=I.loc;obtain⟨u,r,l⟩:=k i x v hN e hv;have fin:EP X b σ Q u s:=⟨v,H,I,r,h⟩;rcases l with⟨hk,j⟩ | ⟨hk,c,d,a⟩
 ·exact wpAny_Name (wpAny_loadName_local I.ok.kind hk g j fin) hd
 ·rcases hk with hk | hk
  ·exact wpAny_Name (wpAny_loadName_cell I.ok.kind hk d a fin) hd
  ·exact wpAny_Name (wpAny_loadName_free I.ok.kind hk d a fin hcd) hd
theorem ai{i j pos}:PE X (.Constant (.int i) j pos) (tC (.int i)):=λ_ _ _ H _ I h=>wpAny_Constant_int ⟨.int i,H,I.tok _,⟨_,rfl⟩,h⟩
theorem gM{b j pos}:PE X (.Constant (.bool b) j pos) (tC (.bl b)):=λ_ _ _ H _ I h=>Constant_bool ⟨.bl b,H,I,rfl,h⟩
theorem kL{j pos}:PE X (.Constant .none j pos) (tC .non):=λ_ _ _ H _ I h=>Constant_none ⟨.non,H,I,rfl,h⟩
theorem jJ{x j pos}:PE X (.Constant (.str x) j pos) (tC (.str x)):=λ_ _ _ H _ I h=>Calls.Constant_str ⟨.str x,H,I.tok _,⟨_,rfl⟩,h⟩
def Gl(X:Cx)(x:Str):Prop:=X.env.kindOf x=some .globalImplicit
theorem mQ{E:KW}{pins:KZ}{s:K1}{σ:St}{H:Hp}{x:Str}{u:Value}{pos:Pos}{Q:KW}(I:Inv X pins σ H s)(hg:Gl X x)(hm:X.mg x=some u)(h:Q u s)
  (hd:autoParam ((x==("__debug__":Str))=false) zz1._auto_1):wpAny (model X.prog X.w) X.A (eval (.Name x pos) X.env) Q E s:=
 Calls.Name_function_global I.ok.kind hg (Calls.loadGlobal_global (by rw[I.ok.glob];exact I.mod.glob.keeps I.bk) hm h) hd
theorem eG{E:KW}{pins:KZ}{s:K1}{σ:St}{H:Hp}{x:Str}{u:Value}{pos:Pos}{Q:KW}(I:Inv X pins σ H s)(hg:Gl X x)(hm:X.mg x=none)(hv:bootBuiltins x=some u)(h:Q u s)
  (hn:autoParam (x≠"__name__") zz1._auto_1) (hd:autoParam ((x==("__debug__":Str))=false) zz1._auto_1):wpAny (model X.prog X.w) X.A (eval (.Name x pos) X.env) Q E s:=by
 obtain⟨mb,h1,h2⟩:=I.mod.blt;exact Calls.Name_function_global I.ok.kind hg (Calls.loadGlobal_builtin (by rw[I.ok.glob];exact I.mod.glob.keeps I.bk) hm (by rw[I.ok.blt];exact h1.keeps I.bk) ((h2 x hn).trans hv) h) hd
theorem di{x:Str}{v:V}{u:Value}{pos:Pos}(hg:Gl X x)(hm:X.mg x=some u)(r:bF v u)(hd:autoParam ((x==("__debug__":Str))=false) zz1._auto_1):PE X (.Name x pos) (tC v):=
 λ_ _ _ H _ I h=>mQ I hg hm ⟨v,H,I,r,h⟩ hd
theorem iZ{x:Str}{v:V}{u:Value}{pos:Pos}(hg:Gl X x)(hm:X.mg x=none)(hv:bootBuiltins x=some u)(r:bF v u)(hn:autoParam (x≠"__name__") zz1._auto_1)(hd:autoParam ((x==("__debug__":Str))=false) zz1._auto_1):PE X (.Name x pos) (tC v):=
 λ_ _ _ H _ I h=>eG I hg hm hv ⟨v,H,I,r,h⟩ hn hd
variable {a b:Expr}{ta tb:TE}{pos:Pos}
def PC(X:Cx)(op:CmpOp)(a b:Expr)(t:TE):Prop:=
 ∀(pins:KZ) (s:K1) (σ:St) (H:Hp) (Q:VK),Inv X pins σ H s->t σ H Q ->
  wpAny (model X.prog X.w) X.A (eval a X.env) (λv s₁=>wpAny (model X.prog X.w) X.A (eval b X.env) (λu s₂=>wpAny (model X.prog X.w) X.A (compareOp op v u) (EP X pins σ Q) X.xe s₂) X.xe s₁) X.xe s
theorem t_(b:Expr){op:CmpOp}(h:op≠.In)(h2:op≠.NotIn):behindInMarks op b=false:=by
 have c:(op==CmpOp.In)=false:=by cases op<;>first | rfl | exact q0Q rfl h
 have a:(op==CmpOp.NotIn)=false:=by cases op<;>first | rfl | exact q0Q rfl h2
 cases b<;>simp[behindInMarks,c,a]
def tB(t:TE):TT:=λσ H Q=>t σ H λx H1=>∃c,x=.bl c/\Q c H1
theorem Ec{op:CmpOp}{t:TE}(h:PC X op a b t)(h1:autoParam (behindInMarks op b=false) zz5._auto_1):PE X (.Compare a [op] [b] pos) t:=λpins s σ H Q I hw=>wpAny_Compare1 (h pins s σ H Q I hw) h1
theorem tf{op:CmpOp}{t:TE}(h:PC X op a b t)(h1:autoParam (behindInMarks op b=false) zz5._auto_1):PT X (.Compare a [op] [b] pos) (tB t):=by
 intro e s σ H Q I hw;refine wpAny_isTrue_Compare1 (cq (h e s σ H _ I hw) λv s1 h1=>cq h1 λu s2 h2=>cq h2 λc s3 ⟨x,H1,j,g,i⟩=>?_) h1;obtain⟨d,rfl,q⟩:=i;cases g;exact wpAny_truthy_bool ⟨H1,j,q⟩
variable {tA tB':TT}{bY:Lb}
def D_(t u:TT):TT:=λσ H Q=>t σ H λc H1=>if c=true then u σ H1 Q else Q false H1
def GP(t u:TT):TT:=λσ H Q=>t σ H λc H1=>if c=true then Q true H1 else u σ H1 Q
def DY(t:TT):TT:=λσ H Q=>t σ H λc H1=>Q (!c) H1
theorem eV(ha:PT X a tA):PW X (.BoolOp .And [a] pos) tA:=by
 intro wh b s σ H Q I h;refine isTrue_and (cq (ha b s σ H Q I h) λc s1 e=>?_);cases c with
 |true=>exact isTrue_and_nil e
 |false=>exact e
theorem lC(ha:PT X a tA):PW X (.BoolOp .Or [a] pos) tA:=by
 intro wh b s σ H Q I h;refine isTrue_or (cq (ha b s σ H Q I h) λc s1 e=>?_);cases c with
 |false=>exact isTrue_or_nil e
 |true=>exact e
theorem fL(ha:PT X a tA)(hb:PW X (.BoolOp .And (b::bY) pos) tB'):PW X (.BoolOp .And (a::b::bY) pos) (D_ tA tB'):=by
 intro i d s σ H Q I h;refine isTrue_and (cq (ha d s σ H _ I h) λc j ⟨H1,g,e⟩=>?_);cases c with
 |true=>exact hb i d j σ H1 Q g e
 |false=>exact⟨H1,g,e⟩
theorem lU(ha:PT X a tA)(hb:PW X (.BoolOp .Or (b::bY) pos) tB'):PW X (.BoolOp .Or (a::b::bY) pos) (GP tA tB'):=by
 intro i d s σ H Q I h;refine isTrue_or (cq (ha d s σ H _ I h) λc j ⟨H1,g,e⟩=>?_);cases c with
 |true=>exact⟨H1,g,e⟩
 |false=>exact hb i d j σ H1 Q g e
theorem fz(ha:PT X a tA):PT X (.UnaryOp .Not a pos) (DY tA):=by
 intro b s σ H Q I h;exact isTrue_not (ha b s σ H (λc H1=>Q (!c) H1) I h)
def Ax(ta tb:TE):TE:=λσ H Q=>ta σ H λx H1=>∃c,x=.bl c/\if c=true then tb σ H1 Q else Q (.bl false) H1
def Br(ta:TE):TE:=λσ H Q=>ta σ H λx H1=>∃c,x=.bl c/\Q (.bl (!c)) H1
theorem wO{op}{t:TE}(h:PE X a t):PE X (.BoolOp op [a] pos) t:=λpins s σ H Q I hw=>BoolOp_one (h pins s σ H Q I hw)
theorem rM(ha:PE X a ta)(hb:PE X (.BoolOp .And (b::bY) pos) tb):PE X (.BoolOp .And (a::b::bY) pos) (Ax ta tb):=by
 intro d s σ H Q I h;refine BoolOp_and (cq (ha d s σ H _ I h) λv i ⟨x,H1,g,j,e⟩=>?_);obtain⟨c,rfl,e⟩:=e;cases j;refine wpAny_truthy_bool ?_;cases c with
 |true=>exact hb d i σ H1 Q g e
 |false=>exact⟨.bl false,H1,g,rfl,e⟩
theorem Es(ha:PE X a ta):PE X (.UnaryOp .Not a pos) (Br ta):=by
 intro b s σ H Q I h;refine UnaryOp_ (cq (ha b s σ H _ I h) λv s1 ⟨x,H1,g,e,d⟩=>?_);obtain⟨c,rfl,d⟩:=d;cases e;exact not_of (wpAny_truthy_bool ⟨.bl (!c),H1,g,rfl,d⟩)
def GI(t:TT)(ta tb:TE):TE:=λσ H Q=>t σ H λc H1=>if c=true then ta σ H1 Q else tb σ H1 Q
theorem zJ{c:Expr}(hc:PT X c tA)(ha:PE X a ta)(hb:PE X b tb):PE X (.IfExp c a b pos) (GI tA ta tb):=by
 intro e s σ H Q I h;refine wpAny_IfExp (cq (hc e s σ H _ I h) λd g ⟨H1,j,i⟩=>?_);cases d with
 |true=>exact ha e g σ H1 Q j i
 |false=>exact hb e g σ H1 Q j i
end
def aN(K:KY)(H:Hp)(a:Addr)(xs:List V):Prop:=
 Rd H a (.lst xs) \/
  ∃(o:Obj) (its:Array Value) (n:Nat),K.lookup a=some o/\o.cls=.type "list"/\o.dict=none/\o.data=.seq its n/\its.size<=sizeLine/\bp xs its.toList
def dt(K:KY)(H:Hp)(a:Addr)(xs:List V):Prop:=
 Rd H a (.tup xs) \/
  ∃(o:Obj) (its:Array Value) (n:Nat),K.lookup a=some o/\o.cls=.type "tuple"/\o.data=.seq its n/\its.size<=sizeLine/\bp xs its.toList
def Gy:Value->Option V
 | .none=>some .non
 | .bool b=>some (.bl b)
 | .int i _=>some (.int i)
 | .str x _=>some (.str x)
 | .bytes b _=>some (.byt b)
 | .float b _=>some (.flt b)
 | .ref a=>some (.ref a)
 | .type n=>some (.ty n)
 |_=>none
theorem bF.abs{x:V}{u:Value}(r:bF x u):Gy u=some x:=by
 cases x with
 |non=>cases r;rfl
 |bl _=>cases r;rfl
 |int _=>obtain⟨t,rfl⟩:=r;rfl
 |str _=>obtain⟨t,rfl⟩:=r;rfl
 |byt _=>obtain⟨t,rfl⟩:=r;rfl
 |flt _=>obtain⟨t,rfl⟩:=r;rfl
 |ref _=>cases r;rfl
 |ty _=>cases r;rfl
theorem bF.inj{x y:V}{u:Value}(r:bF x u)(q:bF y u):x=y:=q0S (r.abs.symm.trans q.abs)
theorem bp.inj:∀{xs ys:List V} {us:K2},bp xs us->bp ys us->xs=ys
 |_,_,_,.nil,.nil=>rfl
 |_,_,_,.cons r t,.cons r' t'=>by rw[r.inj r',bp.inj t t']
section
variable {X:Cx}{pins:KZ}{σ:St}{H:Hp}{s:K1}{a:Addr}{xs ys:List V}
theorem aN.of{K:KY}(h:H a=some (.lst xs)):aN K H a xs:=.inl (.inl h)
theorem dt.of{K:KY}(h:H a=some (.tup xs)):dt K H a xs:=.inl (.inl h)
theorem Inv.list(I:Inv X pins σ H s)(h:aN X.K H a xs):∃its:List Value,bp xs its/\PlainL s.heap a its.toArray/\xs.length<=sizeLine:=by
 rcases h with h | ⟨o,its,n,c,g,d,b,hz,r⟩
 ·obtain⟨z,its,n,r,e⟩:=h.ok I.hok
  exact⟨its,r,⟨_,n,e,rfl,rfl,rfl⟩,z⟩
 ·refine⟨its.toList,r,⟨o,n,I.kIn a o c,g,d,by simpa using b⟩,?_⟩
  have e:=r.length;simp only[Array.length_toList]at e;omega
theorem Inv.tuple(I:Inv X pins σ H s)(h:dt X.K H a xs):∃its:List Value,bp xs its/\IsTup s.heap a its.toArray/\xs.length<=sizeLine:=by
 rcases h with h | ⟨o,its,n,c,d,b,hz,r⟩
 ·obtain⟨z,its,r,p⟩:=h.ok I.hok
  exact⟨its,r,p,z⟩
 ·refine⟨its.toList,r,⟨o,I.kIn a o c,d,n,by simpa using b⟩,?_⟩
  have e:=r.length;simp only[Array.length_toList]at e;omega
theorem Inv.list_inj(I:Inv X pins σ H s)(h:aN X.K H a xs)(h':aN X.K H a ys):xs=ys:=by
 obtain⟨c,r,⟨o,n,e,_,_,d⟩,_⟩:=I.list h;obtain⟨b,j,⟨o',n',g,_,_,i⟩,_⟩:=I.list h';rw[e]at g;cases g
 rw[d]at i
 injection i with d1 _
 have:c=b:=by simpa using q0R Array.toList d1
 subst this;exact r.inj j
end
abbrev Cx.wish(X:Cx)(E:KW):Cx:={X with xe:=E}
abbrev Cx.nox(X:Cx):Cx:=X.wish λ_ _=>False
theorem Cx.Ok.wish{X:Cx}(ok:X.Ok)(E:KW):(X.wish E).Ok:=
 ⟨ok.mod,ok.kind,ok.glob,ok.blt,ok.above,ok.inj,ok.has,ok.cab,ok.hd,ok.frames,ok.stk,ok.exf,ok.bs,ok.bsz,ok.noex,ok.exfs,ok.funs,ok.frf⟩
theorem Cx.Ok.unwish{X:Cx}{E:KW}(ok:(X.wish E).Ok):X.Ok:=
 ⟨ok.mod,ok.kind,ok.glob,ok.blt,ok.above,ok.inj,ok.has,ok.cab,ok.hd,ok.frames,ok.stk,ok.exf,ok.bs,ok.bsz,ok.noex,ok.exfs,ok.funs,ok.frf⟩
section
variable {X:Cx}{pins:KZ}{σ:St}{H:Hp}{s:K1}{E:KW}
theorem Inv.wish(I:Inv X pins σ H s)(E:KW):Inv (X.wish E) pins σ H s:=⟨I.ok.wish E,I.os,I.bare,I.base,I.loc,I.cell,I.free,I.freeC,I.pin,I.hok,I.len⟩
theorem Inv.unwish(I:Inv (X.wish E) pins σ H s):Inv X pins σ H s:=⟨I.ok.unwish,I.os,I.bare,I.base,I.loc,I.cell,I.free,I.freeC,I.pin,I.hok,I.len⟩
theorem SP.unwish{D:g_}{f:Flow}{s':K1}(h:SP (X.wish E) pins D f s'):SP X pins D f s':=by
 cases f with
 |next=>obtain⟨σ',a,I,q⟩:=h;exact⟨σ',a,I.unwish,q⟩
 |brk=>obtain⟨σ',a,I,q⟩:=h;exact⟨σ',a,I.unwish,q⟩
 |cont=>obtain⟨σ',a,I,q⟩:=h;exact⟨σ',a,I.unwish,q⟩
 |ret u=>obtain⟨v,σ',a,I,r,q⟩:=h;exact⟨v,σ',a,I.unwish,r,q⟩
theorem wJ.nox{st:List Stmt}{t:TS}(h:wJ X.nox st t):wJ X st t:=λpins s σ H D I hw=>
 q0X (h pins s σ H D (I.wish _) hw) (λ_ _ q=>q.unwish) λ_ _ z=>False.elim z
end
section
variable {X:Cx}{st:Stmt}{bY:List Stmt}{t u:TS}{e:Expr}{te:TE}{pos:Pos}
def AH:TS:=λD σ H=>D.nx σ H
def yC(t u:TS):TS:=λD σ H=>t {D with nx:=u D} σ H
theorem aV:wJ X [] AH:=λ_ _ σ H _ I h=>wpAny_execs_nil ⟨σ,H,I,h⟩
theorem ae(h1:PS X st t)(h2:wJ X bY u):wJ X (st::bY) (yC t u):=by
 intro a s σ H D I h;refine wpAny_execs_cons (cq (h1 a s σ H {D with nx:=u D} I h) λf b q=>?_);cases f with
 |next=>
  obtain⟨σ',d,c,q⟩:=q;exact h2 a b σ' d D c q
 |ret v=>exact q
 |brk=>exact q
 |cont=>exact q
theorem ag(h1:PS X st t):wJ X [st] t:=by
 intro a s σ H D I h;refine wpAny_execs_cons (cq (h1 a s σ H D I h) λf s1 q=>?_);cases f with
 |next=>exact wpAny_execs_nil q
 |ret v=>exact q
 |brk=>exact q
 |cont=>exact q
theorem Inv.quiet{pins:KZ}{σ:St}{H:Hp}{s:K1}(I:Inv X pins σ H s):interactive X.env=false:=by simp[interactive,I.ok.kind]
def w8(te:TE):TS:=λD σ H=>te σ H λ_ H1=>D.nx σ H1
theorem bo(he:PE X e te)(hs:autoParam (swapsWith e none pos.line X.env=pure false) zz0._auto_1):PS X (.Expr e pos) (w8 te):=by
 intro a s σ H D I h;exact wpAny_Expr_any (cq (he a s σ H _ I h) λv s1 ⟨x,H1,c,r1,b⟩=>⟨σ,H1,c,b⟩) I.quiet hs
def Eo(te:TE):TS:=λD σ H=>te σ H D.rt
theorem aK(he:PE X e te):PS X (.Return (some e) pos) (Eo te):=by
 intro a s σ H D I h;exact wpAny_Return_some (cq (he a s σ H _ I h) λv s1 ⟨x,H1,d,b,c⟩=>⟨x,σ,H1,d,b,c⟩)
def ug(c:TT)(t u:TS):TS:=λD σ H=>c σ H λb H1=>if b=true then t D σ H1 else u D σ H1
theorem bJ{c:Expr}{a b:List Stmt}{tc:TT}(hc:PT X c tc)(ha:wJ X a t)(hb:wJ X b u):PS X (.If c a b pos) (ug tc t u):=by
 intro e s σ H D I h;refine wpAny_If (cq (hc e s σ H _ I h) λd g ⟨H1,j,i⟩=>?_);cases d with
 |true=>exact ha e g σ H1 D j i
 |false=>exact hb e g σ H1 D j i
end
abbrev TG:=V->St->Hp->(St->Hp->Prop)->Prop
abbrev DA:=List V->St->Hp->(St->Hp->Prop)->Prop
def PG(X:Cx)(target:Expr)(t:TG):Prop:=
 ∀(pins:KZ) (s:K1) (σ:St) (H:Hp) (v:V) (u:Value) (Q:St->Hp->Prop),Inv X pins σ H s->bF v u->t v σ H Q ->
  wpAny (model X.prog X.w) X.A (assign target X.env u) (λ_ s'=>∃σ' H',Inv X pins σ' H' s'/\Q σ' H') X.xe s
def FH(X:Cx)(ts:Lb)(t:DA):Prop:=
 ∀(pins:KZ) (s:K1) (σ:St) (H:Hp) (vs:List V) (us:K2) (Q:St->Hp->Prop),Inv X pins σ H s->bp vs us->t vs σ H Q ->
  wpAny (model X.prog X.w) X.A (assignInOrder ((assignEach ts X.env).map (·.2)) us) (λ_ s'=>∃σ' H',Inv X pins σ' H' s'/\Q σ' H') X.xe s
abbrev Ei:=V->V->V->Hp->(Hp->Prop)->Prop
def Fp(X:Cx)(t:Ei):Prop:=
 ∀(pins:KZ) (s:K1) (σ:St) (H:Hp) (o i v:V) (ov iv u:Value) (Q:Hp->Prop),Inv X pins σ H s->bF o ov->bF i iv->bF v u->t o i v H Q ->
  wpAny (model X.prog X.w) X.A (setItem ov iv u) (λ_ s'=>∃H',Inv X pins σ H' s'/\Q H') X.xe s
section
variable {X:Cx}{pos:Pos}
def jx(i:Nat):TG:=λv σ H Q=>Q (σ.set i (some v)) H
theorem ay{i:Nat}{x:Str}(hN:X.N.Nodup)(hi:X.N[i]?=some x)(hx:Loc X.env.scope x)(hf:autoParam (X.fn x=true\/X.env.scope.names.lookup x=some .local) zz2._auto_1):PG X (.Name x pos) (jx i):=by
 intro pins s σ H v u Q I r h;exact wpAny_assign_Name (vd I hN hi hx r (λs' a=>⟨_,H,a,h⟩) hf)
theorem q02(i:Nat){x:Str}(hN:X.N.Nodup)(hi:autoParam (X.N[i]?=some x) zz0._auto_1)(hx:autoParam (Loc X.env.scope x) zzl._auto_1)(hf:autoParam (X.fn x=true\/X.env.scope.names.lookup x=some .local) zz2._auto_1):PG X (.Name x pos) (jx i):=ay hN hi hx hf
def Cz:DA:=λvs σ H Q=>vs=[]/\Q σ H
def xf(t:TG)(u:DA):DA:=λvs σ H Q=>∃v r,vs=v::r/\t v σ H λσ' H'=>u r σ' H' Q
theorem dQ:FH X [] Cz:=by
 intro pins s σ H vs us Q I r h;obtain⟨e,h⟩:=h;subst e;cases r;exact assignInOrder_nil ⟨σ,H,I,h⟩
theorem bf{e:Expr}{es:Lb}{t:TG}{u:DA}(h1:PG X e t)(h2:FH X es u)
  (hs:autoParam ((assignEach (e::es) X.env).map (·.2)=assign e X.env::(assignEach es X.env).map (·.2)) zz0._auto_1):FH X (e::es) (xf t u):=by
 intro a s σ H vs us Q I r h;obtain⟨v,vr,d,h⟩:=h;subst d;cases r with
 |cons r rr=>
  rw[hs];refine assignInOrder_cons (cq (h1 a s σ H _ _ _ I r h) λ_ b ⟨σ1,H1,g,c⟩=>?_);exact h2 a b σ1 H1 _ _ Q g rr c
def zY(K:KY)(n:Nat)(t:DA):TG:=λv σ H Q=>∃a xs,v=.ref a/\dt K H a xs/\xs.length=n/\t xs σ H Q
theorem iT{es:Lb}{k:Nat}{t:DA}{n:Nat}(hc:X.calm=true)(h:FH X es t)
  (hn:autoParam ((assignEach es X.env).length=n) zz0._auto_1) (hst:autoParam ((assignEach es X.env).findIdx? (·.1)=none) zz0._auto_1):PG X (.Tuple es k pos) (zY X.K n t):=by
 intro c s σ H v u Q I r d;obtain⟨a,i,w,m,p,d⟩:=d;subst w;cases r;obtain⟨its,g,l,hz⟩:=I.tuple m;refine assign_Tuple_tuple (I.ok.hd hc) l (by simp[hn,<- p,g.length]) hst λq j=>?_;have x:Inv X c σ H {s with heap:=q }:=I.kept (t':=s.toks) λb o e=>j b o (Kf (Km e)) e;exact h c _ σ H i _ Q x (by simpa using g) d
def EW(to ti:TE)(t:Ei):TG:=λv σ H Q=>to σ H λo H1=>ti σ H1 λi H2=>t o i v H2 λH3=>Q σ H3
theorem DX{o i:Expr}{to ti:TE}{t:Ei}(ho:PE X o to)(hi:PE X i ti)(hs:Fp X t)
  (ha:autoParam (∀v,assign (.Subscript o i pos) X.env v=(do
   let ov <- holding [v] (eval o X.env)
   let iv <- holding [v,ov] (eval i X.env)
   standAt pos
   holding [v,ov,iv] (setItem ov iv v)
   release [v,ov,iv] [])) zz3._auto_1):PG X (.Subscript o i pos) (EW to ti t):=by
 intro a s σ H v u Q I r h;rw[ha];refine q04 (q0Y (cq (ho a s σ H _ I h) λov c ⟨x,H1,n,e,k⟩=>?_));refine q04 (q0Y (cq (hi a c σ H1 _ n k) λiv b ⟨y,H2,m,d,j⟩=>?_));refine q04 (wpAny_standAt (q04 (q0Y (cq (hs a b σ H2 x y v ov iv u _ m e d r j) λ_ s3 ⟨p,l,g⟩=>?_))));exact wpAny_release ⟨σ,p,l,g⟩
def yO(te:TE)(g:TG):TS:=λD σ H=>te σ H λx H1=>g x σ H1 D.nx
theorem wK{tg e:Expr}{te:TE}{g:TG}(he:PE X e te)(hg:PG X tg g)(hs:autoParam (swapsWithSole [tg] e pos.line X.env=pure false) zz0._auto_1)(hw:autoParam (swappedStores [tg] e X.env=pure none) zz0._auto_1)
  (h1:autoParam ((assignEach [tg] X.env).map (·.2)=[assign tg X.env]) zz0._auto_1):PS X (.Assign [tg] e pos) (yO te g):=by
 intro a s σ H D I h;refine wpAny_Assign_stores (cq (he a s σ H _ I h) λv b ⟨x,H1,i,c,d⟩=>?_) hs hw;rw[h1];exact cq (hg a b σ H1 x v _ i c d) λ_ s2 q=>q
theorem aH{i:Nat}{x:Str}{e:Expr}{te:TE}{pos':Pos}(hN:X.N.Nodup)(hi:X.N[i]?=some x)(hx:Loc X.env.scope x)(he:PE X e te)(hs:autoParam (swapsWith e (some (.Name x pos')) pos.line X.env=pure false) zz0._auto_1)(hf:autoParam (X.fn x=true\/X.env.scope.names.lookup x=some .local) zz2._auto_1) :
  PS X (.Assign [.Name x pos'] e pos) (yO te (jx i)):=by
 intro a s σ H D I h;refine wpAny_Assign_Name (cq (he a s σ H _ I h) λv s1 ⟨y,H1,g,b,c⟩=>?_) hs;exact vd g hN hi hx b (λs2 d=>⟨_,H1,d,c⟩) hf
theorem q01(i:Nat){x:Str}{e:Expr}{te:TE}{pos':Pos}(hN:X.N.Nodup)(he:PE X e te)(hi:autoParam (X.N[i]?=some x) zz0._auto_1)(hx:autoParam (Loc X.env.scope x) zzl._auto_1)(hs:autoParam (swapsWith e (some (.Name x pos')) pos.line X.env=pure false) zz0._auto_1)(hf:autoParam (X.fn x=true\/X.env.scope.names.lookup x=some .local) zz2._auto_1):
  PS X (.Assign [.Name x pos'] e pos) (yO te (jx i)):=aH hN hi hx he hs hf
def vR(c:TT)(tb:TS):TS:=λD σ H=>∃W:Nat->St->Hp->Prop,(∃m,W m σ H)/\∀m σ H,W m σ H ->
 c σ H λb H1=>if b=true then ∃N:St->Hp->Prop,(∀σ' H',N σ' H'->∃m',m'<m/\W m' σ' H')/\tb {D with nx:=N,ct:=N,bk:=D.nx} σ H1 else D.nx σ H1
theorem A9{c:Expr}{body:List Stmt}{tc:TT}{tb:TS}(hp:PassesOwn (model X.prog X.w) X.A X.env X.xe)(hc:PT X c tc)(hb:wJ X body tb):PS X (.While c body [] pos) (vR tc tb):=by
 intro a s σ H D I h;obtain⟨W,⟨m0,r⟩,turn⟩:=h;refine wpAny_While (codeAny_whileLoop (λn x=>∃σ' H',Inv X a σ' H' x/\W n σ' H') ?_ m0 ⟨σ,H,I,r⟩);rintro n w ⟨σ1,H1,y,q⟩;refine wpAny_passesOwn hp (cq (hc a w σ1 H1 _ y (turn n σ1 H1 q)) λb u ⟨H2,p,g⟩=>?_);cases b with
 |true=>
  obtain⟨N,o,g⟩:=g;rw[q07 rfl];refine wpAny_passesOwn hp (cq (hb a u σ1 H2 _ p g) λf s3 e=>?_);cases f with
  |next=>
   obtain⟨σ3,d,m,j⟩:=e;obtain⟨k,l,i⟩:=o σ3 d j;exact⟨k,l,σ3,d,m,i⟩
  |cont=>
   obtain⟨σ3,d,m,j⟩:=e;obtain⟨k,l,i⟩:=o σ3 d j;exact⟨k,l,σ3,d,m,i⟩
  |brk=>exact e
  |ret v=>exact e
 |false=>
  rw[q06 Kl];exact wpAny_execs_nil ⟨σ1,H2,p,g⟩
end
structure It where
 go:Nat->Hp->Prop
 yld:Nat->Hp->V->Hp->Prop
 stop:Nat->Hp->Prop
def my(X:Cx)(pins:KZ)(H:Hp)(b:Addr):Prop:=
 H b=none/\b≠X.env.locals/\b∉X.fs/\(b∈X.ex\/X.s₀.heap.objs.size<=b)/\(∀x c,X.env.cells.lookup x=some c->c≠b)/\∀p∈X.pn++pins,p.1≠b
theorem Inv.fpOk{X:Cx}{pins:KZ}{σ:St}{H H':Hp}{s:K1}{b:Addr}(I:Inv X pins σ H s)(hb:s.heap.objs.size<=b)(hn:H' b=none):my X pins H' b:=by
 refine⟨hn,Nat.ne_of_gt (Ke I.lt hb),I.nofs hb,.inr (Ks I.sz hb),λx c e z=>?_,λp a z=>?_⟩
 ·obtain⟨v,q⟩:=I.cell x c e
  exact q0Q (Ke q.lt (by rw[z];exact hb)) (Kt _)
 ·exact q0Q (Ke (Km (I.pin p a).1) (by rw[z];exact hb)) (Kt _)
structure rQ(P:K6)(w:K9)(K:KY)(tg:Expr)(J:It)(fp:K3)(it:Addr)(tn:Nat->Heap->Prop):Prop where
 mem:it∈fp
 obj:∀i h,tn i h->∀b∈fp,∃o,h.get? b=some o/\∀v,o.data≠.cell v
 keep:∀i h h',tn i h->(∀b∈fp,∀o,h.get? b=some o->h'.get? b=some o)->tn i h'
 item:∀(X:Cx),X.prog=P->X.w=w->X.K=K->X.calm=true->∀(i:Nat) (pins:KZ) (s:K1) (σ:St) (H:Hp) (E:KW),Inv X pins σ H s->(∀b∈fp,my X pins H b)->tn i s.heap->J.go i H ->
  wpAny (model P w) X.A (pyNext (.ref it)) (λr s1=>∃u,r=some u /\
   wpAny (model P w) X.A (letOwnedTupleGo tg (.ref it) u) (λ_ s2=>∃x H',Inv X pins σ H' s2/\bF x u/\J.yld i H x H'/\tn (i+1) s2.heap/\∀b∈fp,H' b=none) E s1) E s
 done:∀(X:Cx),X.prog=P->X.w=w->X.K=K->X.calm=true->∀(i:Nat) (pins:KZ) (s:K1) (σ:St) (H:Hp) (E:KW),Inv X pins σ H s->(∀b∈fp,my X pins H b)->tn i s.heap->J.stop i H ->
  wpAny (model P w) X.A (pyNext (.ref it)) (λr s1=>r=none/\Inv X pins σ H s1) E s
 self:∀(A:K8) (i:Nat) (s:K1) (Q:KW) (E:KW),tn i s.heap->Q (.ref it) s->wpAny (model P w) A (pyIter (.ref it)) Q E s
abbrev TI:=St->Hp->(It->Hp->Prop)->Prop
def Hj(X:Cx)(pins:KZ)(σ:St)(tg:Expr)(R:It->Hp->Prop)(itv:Value)(s2:K1):Prop:=
 ∃(it:Addr) (fp:K3) (tn:Nat->Heap->Prop) (J:It) (H':Hp),itv=.ref it/\Inv X pins σ H' s2/\rQ X.prog X.w X.K tg J fp it tn/\tn 0 s2.heap/\(∀b∈fp,my X pins H' b)/\R J H'
def PI(X:Cx)(tg iter:Expr)(wi:TI):Prop:=
 ∀(pins:KZ) (s:K1) (σ:St) (H:Hp) (R:It->Hp->Prop),Inv X pins σ H s->wi σ H R ->
  wpAny (model X.prog X.w) X.A (eval iter X.env) (λv s1=>wpAny (model X.prog X.w) X.A (pyIter v) (Hj X pins σ tg R) X.xe s1) X.xe s
theorem uk{M:Model}{A:K8}{E:KW}{s:K1}{tg:Expr}{it:Addr}{u:Value}{o:Obj}{n:String}{vs:Array Value}{Q:Unit->Shared->Prop}(ho:s.heap.get? it=some o)(hc:o.cls=.type n)(hd:o.data=.fields vs)
  (hn:["enumerate","zip","dict_itemiterator","dict_reverseitemiterator","odict_iterator","itertools.zip_longest","itertools.pairwise"].contains n=false) (hQ:Q () s):wpAny M A (letOwnedTupleGo tg (.ref it) u) Q E s:=by
 unfold letOwnedTupleGo;cases tg<;>first
  |exact q05 hQ
  | (cases u<;>first
    |exact q05 hQ
    | (refine q04 (wpAny_load ho ?_)
       rw[hc,hd];show wpAny M A (if(["enumerate","zip","dict_itemiterator","dict_reverseitemiterator","odict_iterator","itertools.zip_longest","itertools.pairwise"].contains n&&vs[0]?==some (rawInt _))=true then _ else _) Q E s;rw[q06 (by intro h;rw[hn,Bool.false_and]at h;cases h)];exact q05 hQ))
def An(K:KY)(a:Addr):It:=
 ⟨λi H=>∃xs x,aN K H a xs/\xs[i]?=some x,λi H x H'=>H'=H/\∀xs,aN K H a xs->xs[i]?=some x,λi H=>∃xs,aN K H a xs/\xs.length<=i⟩
def yS(lo:Int)(n:Nat):It:=⟨λi _=>i<n,λi H x H'=>H'=H/\x=.int (lo+i),λi _=>n<=i⟩
theorem zo{P:K6}{w:K9}{K:KY}{tg:Expr}(a it:Addr):rQ P w K tg (An K a) [it] it (λi h=>h.IsListIter it a i) where
 mem:=by simp
 obj:=λi h g b l=>by
  have e:b=it:=by simpa using l
  subst e;obtain⟨o,e,c,d⟩:=g;exact⟨o,e,λv z=>by rw[d]at z;cases z⟩
 keep:=λi h q g k=>g.at λo e=>k it (by simp) o e
 item:=by
  intro X D C G S i j s σ H E I hf g hg;subst D C G;obtain⟨T,x,n,B⟩:=hg;obtain⟨y,r,p,Z⟩:=I.list n;obtain⟨u,hu,Y⟩:=r.get B;obtain⟨R,O,f2,M,L,J⟩:=hf it (by simp);refine wpAny_pyNext_list_item g p.isList (x:=u) (by simpa using hu) λq m U=>?_;have I1:Inv X j σ H {s with heap:=q }:=I.turned (t':=s.toks) (λb o l e=>(U.2 b l).trans e) R O M L J;obtain⟨o,e,c,d⟩:=id m;exact⟨u,rfl,uk (s:={s with heap:=q }) e c d (by decide) ⟨x,H,I1,Y,⟨rfl,λys hy=>by rw[I.list_inj hy n];exact B⟩,m,λb l=>(hf b l).1⟩⟩
 done:=by
  intro X D C G S i j s σ H E I hf g hg;subst D C G;obtain⟨T,n,B⟩:=hg;obtain⟨y,r,p,Z⟩:=I.list n;obtain⟨R,O,f2,M,L,J⟩:=hf it (by simp);have hl:=r.length;exact wpAny_pyNext_list_end (I.ok.hd S) g p.isList (by simp;omega) λq eb=>⟨rfl,I.turned (t':=s.toks) (λb o l e=>eb b o l e) R O M L J⟩
 self:=λ_ _ _ _ _ g h=>wpAny_pyIter_listiter g h
theorem wb{P:K6}{w:K9}{K:KY}{tg:Expr}(it:Addr)(lo:Int)(n:Nat):rQ P w K tg (yS lo n) [it] it (λi h=>IsRangeIter h it (lo+(i:Nat)*1) ((n:Int)-(i:Nat)) 1) where
 mem:=by simp
 obj:=λi h a b d=>by
  have e:b=it:=by simpa using d
  subst e;exact⟨_,a,λv z=>by
   have D:Data.fields _=Data.cell v:=z;cases D⟩
 keep:=λi h j a k=>k it (by simp) _ a
 item:=by
  intro X p l q m i c s σ H E I hf a hg;subst p l q;obtain⟨B,y,f2,x,u,r⟩:=hf it (by simp);have W:=Walks.range (prog:=X.prog) (w:=X.w) (I.ok.hd m) it lo 1 n;refine W.item i s _ _ hg a λv j C J g G=>?_;obtain⟨t,rfl⟩:=J;have M:Inv X c σ H {s with heap:=j,toks:=C}:=I.turned (λb o d e=>G b o (by simpa using d) e) B y x u r;refine⟨_,rfl,uk (s:={s with heap:=j,toks:=C}) (n:="range_iterator") g rfl rfl (by decide) ⟨.int (lo+i),H,M,⟨t,?_⟩,⟨rfl,rfl⟩,g,λb d=>(hf b d).1⟩⟩;rw[Int.mul_one]
 done:=by
  intro X p l q m i c s σ H E I hf a hg;subst p l q;obtain⟨B,y,f2,x,u,r⟩:=hf it (by simp);exact wpAny_pyNext_range_end (I.ok.hd m) a (by have:n<=i:=hg;omega) λj L=>⟨rfl,I.turned (t':=s.toks) (λb o d e=>L b o d e) B y x u r⟩
 self:=λ_ _ _ _ _ a h=>wpAny_pyIter_rangeiter a h
section
variable {X:Cx}{tg:Expr}
def Ad(K:KY)(tl:TE):TI:=λσ H R=>tl σ H λx H1=>∃a,x=.ref a/\(∃xs,aN K H1 a xs)/\R (An K a) H1
theorem bi{l:Expr}{tl:TE}(hl:PE X l tl):PI X tg l (Ad X.K tl):=by
 intro c s σ H R I h;refine cq (hl c s σ H _ I h) λv d ⟨x,H1,g,i,j⟩=>?_;obtain⟨a,e,⟨xs,k⟩,q⟩:=j;subst e;cases i;obtain⟨its,rv,p,hz⟩:=g.list k;refine wpAny_pyIter_list p.isList ?_;refine⟨d.heap.objs.size,[d.heap.objs.size],_,_,H1,rfl,g.kept (t':=d.toks) λb o e=>JY _ e,zo a _,⟨_,J4 _ rfl,rfl,rfl⟩,λb m=>?_,q⟩;have e:b=d.heap.objs.size:=by simpa using m
 subst e;exact g.fpOk (Kj _) (g.hok.fresh (Kj _))
theorem t5{pins:KZ}{σ:St}{H:Hp}{s:K1}{R:It->Hp->Prop}{E:KW}{lo hi:Int}{t u v:Tok}{tk:Nat}(I:Inv X pins σ H s)(h1:-(2 ^ 62)<=lo)(h2:lo<2 ^ 62)(h3:-(2 ^ 62)<=hi)(h4:hi<2 ^ 62)
  (q:R (yS lo (hi-lo).toNat) H):wpAny (model X.prog X.w) X.A (pyIter (.ref s.heap.objs.size)) (Hj X pins σ tg R) E {s with heap:=s.heap.push {cls:=.type "range",data:=.fields #[.int lo t,.int hi u,.int 1 v]},toks:=tk}:=by
 refine wpAny_pyIter_range (IsRange.new ..) (small_one h1 h2 h3 h4) ?_;have a:Inv X pins σ H {s with heap:=s.heap.push {cls:=.type "range",data:=.fields #[.int lo t,.int hi u,.int 1 v]},toks:=tk}:=I.kept λb o e=>JY _ e;refine⟨(s.heap.push {cls:=.type "range",data:=.fields #[.int lo t,.int hi u,.int 1 v]}).objs.size,[(s.heap.push {cls:=.type "range",data:=.fields #[.int lo t,.int hi u,.int 1 v]}).objs.size],_,_,H,rfl,
  a.kept (t':=tk) λb o e=>JY _ e,wb _ lo (hi-lo).toNat,?_,λb c=>?_,q⟩
 ·have g:lo+((0:Nat):Int)*1=lo:=by simp
  have d:(((hi-lo).toNat:Nat):Int)-((0:Nat):Int)=Builtin.Range.rangeSize lo hi 1:=by rw[rangeSize_one];split<;>omega
  show IsRangeIter _ _ (lo+((0:Nat):Int)*1) ((((hi-lo).toNat:Nat):Int)-((0:Nat):Int)) 1;rw[g,d];exact J4 _ rfl
 ·have e:b=(s.heap.push {cls:=.type "range",data:=.fields #[.int lo t,.int hi u,.int 1 v]}).objs.size:=by simpa using c
  subst e;exact a.fpOk (Kj _) (a.hok.fresh (Kj _))
def A4(ta:TA):TI:=λσ H R=>ta σ H λvs H1=>∃j:Int,vs=[.int j]/\-(2 ^ 62)<=j/\j<2 ^ 62/\R (yS 0 j.toNat) H1
def Bo(ta:TA):TI:=λσ H R=>ta σ H λvs H1=>∃i j:Int,vs=[.int i,.int j]/\(-(2 ^ 62)<=i/\i<2 ^ 62/\-(2 ^ 62)<=j/\j<2 ^ 62)/\R (yS i (j-i).toNat) H1
theorem cn{a:Expr}{ta:TA}{p pos:Pos}(hg:Gl X "range")(hm:X.mg "range"=none)(ha:PA X [a] ta)(hs:autoParam (starEach [a] X.env=[(false,eval a X.env)]) zz0._auto_1):PI X tg (.Call (.Name "range" p) [a] [] pos) (A4 ta):=by
 intro b s σ H R I h;refine Call_ (eG I hg hm boot_range (PyProof.Rows.callWith_type1 (cq (ha pos b s σ H _ I h) λus s1 ⟨vs,H1,i,d,c⟩=>?_) hs rfl));obtain⟨j,e,c,g,q⟩:=c;subst e;cases d with
 |cons r rr=>
  cases rr;obtain⟨t,rfl⟩:=r;exact call_range_1 (t5 i ⋯ ⋯ c g (by simpa using q))
theorem gF{a b:Expr}{ta:TA}{p pos:Pos}(hg:Gl X "range")(hm:X.mg "range"=none)(ha:PA X [a,b] ta)(hs:autoParam (starEach [a,b] X.env=[(false,eval a X.env),(false,eval b X.env)]) zz0._auto_1)(hs2:autoParam (starEach [b] X.env=[(false,eval b X.env)]) zz0._auto_1) :
  PI X tg (.Call (.Name "range" p) [a,b] [] pos) (Bo ta):=by
 intro c s σ H R I h;refine Call_ (eG I hg hm boot_range (PyProof.Rows.callWith_type1 (cq (ha pos c s σ H _ I h) λus s1 ⟨vs,H1,n,g,d⟩=>?_) (by rw[hs,hs2]) (by rw[hs2];rfl)));obtain⟨i,j,e,⟨d,m,l,k⟩,q⟩:=d;subst e;cases g with
 |cons r rr=>
  cases rr with
  |cons r' rr=>
   cases rr;obtain⟨t,rfl⟩:=r;obtain⟨t',rfl⟩:=r';exact call_range_2 (t5 n d m l k q)
def Gm(wi:TI)(g:TG)(tb:TS):TS:=λD σ H=>wi σ H λJ H1=>∃W:Nat->Nat->St->Hp->Prop,(∃m,W 0 m σ H1)/\∀i m σ H,W i m σ H ->
 (J.stop i H/\D.nx σ H)\/(J.go i H/\∃N:St->Hp->Prop,(∀σ' H',N σ' H'->∃m',m'<m/\W (i+1) m' σ' H')/\∀x H',J.yld i H x H'->g x σ H' λσ2 H2=>tb {D with nx:=N,ct:=N,bk:=D.nx} σ2 H2)
def nv(fp:K3)(h:Heap):List (Addr×Obj):=fp.filterMap λb=>(h.get? b).map λo=>(b,o)
theorem g7{fp:K3}{h:Heap}{b:Addr}{o:Obj}(hb:b∈fp)(e:h.get? b=some o):(b,o)∈nv fp h:=List.mem_filterMap.mpr ⟨b,hb,by rw[e];rfl⟩
theorem yP{fp:K3}{h:Heap}{p:Addr×Obj}(hp:p∈nv fp h):p.1∈fp/\h.get? p.1=some p.2:=by
 obtain⟨b,a,e⟩:=List.mem_filterMap.mp hp;cases q:h.get? b with
 |none=>rw[q]at e;cases e
 |some o=>
  rw[q]at e;have c:(b,o)=p:=q0S e;subst c;exact⟨a,q⟩
theorem Inv.pinned{pins:KZ}{σ:St}{H:Hp}{s:K1}{fp:K3}(I:Inv X pins σ H s)(hf:∀b∈fp,my X pins H b)(ho:∀b∈fp,∃o,s.heap.get? b=some o/\∀v,o.data≠.cell v):Inv X (pins++nv fp s.heap) σ H s:=
 I.pins_of λp hp=>(J'.mp hp).elim (λz=>I.pin p (q0C _ z)) λz=>by
  obtain⟨hb,e⟩:=yP z;obtain⟨f0,f1,f2,_⟩:=hf p.1 hb;obtain⟨o,e',d⟩:=ho p.1 hb;rw[e]at e';cases e'
  exact⟨e,f0,f1,f2,d⟩
theorem Inv.unpinned{pins pl:KZ}{σ:St}{H:Hp}{s:K1}(I:Inv X (pins++pl) σ H s):Inv X pins σ H s:=I.pins_of λp hp=>I.pin p (q0C _ (q0D _ hp))
theorem Ed{iter:Expr}{body:List Stmt}{wi:TI}{g:TG}{tb:TS}{pos:Pos}(hp:PassesOwn (model X.prog X.w) X.A X.env X.xe)(hc:X.calm=true)(hi:PI X tg iter wi)(hg:PG X tg g)(hb:wJ X body tb)
  (hs:autoParam (∀x,foldedSetIterable iter X.env x=pure x) zz3._auto_1):PS X (.For tg iter body [] pos) (Gm wi g tb):=by
 intro a s σ H D I h;refine wpAny_For (cq (hi a s σ H _ I h) λv s1 h1=>cq h1 λitv s2 h2=>?_) hs;obtain⟨it,C,S,J,H2,e,I2,T,L,f2,W,⟨m0,w0⟩,turn⟩:=h2;subst e
 -- what stays true of the iterator's objects through the loop
 have c:∀{H':Hp},(∀b∈C,H' b=none)->∀b∈C,my X a H' b:=λhn b hb=>⟨hn b hb,(f2 b hb).2⟩;refine codeAny_forLoop_any (λn Z=>∃i σ' H',Inv X a σ' H' Z/\S i Z.heap/\(∀b∈C,H' b=none)/\W i n σ' H') ?_ m0 ⟨0,σ,H2,I2,L,λb hb=>(f2 b hb).1,w0⟩;rintro n Y ⟨i,σ3,G,I3,y,B,w3⟩;rcases turn i n σ3 G w3 with⟨w,qn⟩ | ⟨go,N,hN,step⟩
 ·refine wpAny_passesOwn hp (cq (T.done X rfl rfl rfl hc i a Y σ3 G X.xe I3 (c B) y w) λr s4 ⟨hr,I4⟩=>?_)
  subst hr;exact wpAny_execs_nil ⟨σ3,G,I4,qn⟩
 ·refine wpAny_passesOwn hp (cq (T.item X rfl rfl rfl hc i a Y σ3 G X.xe I3 (c B) y go) λr s4 ⟨u,hr,h4⟩=>?_)
  subst hr;refine wpAny_passesOwn hp (cq h4 λ_ U ⟨x,H5,I5,r5,y5,q,O⟩=>?_);have R:=I5.pinned (c O) (T.obj _ _ q);refine wpAny_passesOwn hp (cq (hg _ U σ3 H5 x u _ R r5 (step x H5 y5)) λ_ s6 ⟨σ6,H6,I6,q6⟩=>?_);refine wpAny_passesOwn hp (cq (hb _ s6 σ6 H6 _ I6 q6) λf M p=>?_);have j:∀{σ7:St} {l:Hp},Inv X (a++nv C U.heap) σ7 l M->N σ7 l->∃m,m<n/\∃i σ' H',Inv X a σ' H' M/\S i M.heap/\(∀b∈C,H' b=none)/\W i m σ' H':=fun{σ7 l} k z=>by
   obtain⟨m',hm,w7⟩:=hN σ7 l z;refine⟨m',hm,i+1,σ7,l,k.unpinned,T.keep _ _ _ q λb hb o e=>(k.pin (b,o) (q0C _ (q0C _ (g7 hb e)))).1,λb hb=>?_,w7⟩;obtain⟨o,e,d⟩:=T.obj _ _ q b hb;exact(k.pin (b,o) (q0C _ (q0C _ (g7 hb e)))).2.1
  cases f with
  |next=>obtain⟨σ7,l,k,z⟩:=p;exact j k z
  |cont=>obtain⟨σ7,l,k,z⟩:=p;exact j k z
  |brk=>obtain⟨σ7,l,k,p⟩:=p;exact⟨σ7,l,k.unpinned,p⟩
  |ret v=>obtain⟨x7,σ7,l,k,r7,p⟩:=p;exact⟨x7,σ7,l,k.unpinned,r7,p⟩
end
theorem AG{K:KY}{a:Addr}{xs:List V}{g:TG}{tb:TS}{D:g_}{σ:St}{H:Hp}(Pv:Nat->St->Hp->Prop)(h0:Pv 0 σ H)(hl:∀i σ H,i<=xs.length->Pv i σ H->aN K H a xs)
  (hs:∀i x σ H,xs[i]?=some x->Pv i σ H->g x σ H λσ2 H2=>tb {D with nx:=Pv (i+1),ct:=Pv (i+1),bk:=D.nx} σ2 H2) (hd:∀σ H,Pv xs.length σ H->D.nx σ H) :
  ∃W:Nat->Nat->St->Hp->Prop,(∃m,W 0 m σ H)/\∀i m σ H,W i m σ H ->
   ((An K a).stop i H/\D.nx σ H)\/((An K a).go i H/\∃N:St->Hp->Prop,(∀σ' H',N σ' H'->∃m',m'<m/\W (i+1) m' σ' H')/\∀x H',(An K a).yld i H x H'->g x σ H' λσ2 H2=>tb {D with nx:=N,ct:=N,bk:=D.nx} σ2 H2):=by
 refine⟨λi m σ H=>m=xs.length-i/\i<=xs.length/\Pv i σ H,⟨xs.length,by simp,Kk _,h0⟩,?_⟩;rintro i m σ H ⟨rfl,c,p⟩;have q:=hl i σ H c p
 by_cases b:i<xs.length
 ·refine .inr ⟨⟨xs,xs[i],q,by simp[b]⟩,Pv (i+1),λσ' H' p'=>⟨xs.length-(i+1),⋯,rfl,b,p'⟩,λx H' y=>?_⟩
  obtain⟨e,y⟩:=y;subst e;exact hs i x σ _ (y xs q) p
 ·have e:i=xs.length:=by omega
  subst e;exact .inl ⟨⟨xs,q,Kj _⟩,hd σ H p⟩
theorem yk{lo:Int}{n:Nat}{g:TG}{tb:TS}{D:g_}{σ:St}{H:Hp}(Pv:Nat->St->Hp->Prop)(h0:Pv 0 σ H)
  (hs:∀i σ H,i<n->Pv i σ H->g (.int (lo+i)) σ H λσ2 H2=>tb {D with nx:=Pv (i+1),ct:=Pv (i+1),bk:=D.nx} σ2 H2) (hd:∀σ H,Pv n σ H->D.nx σ H) :
  ∃W:Nat->Nat->St->Hp->Prop,(∃m,W 0 m σ H)/\∀i m σ H,W i m σ H ->
   ((yS lo n).stop i H/\D.nx σ H)\/((yS lo n).go i H/\∃N:St->Hp->Prop,(∀σ' H',N σ' H'->∃m',m'<m/\W (i+1) m' σ' H')/\∀x H',(yS lo n).yld i H x H'->g x σ H' λσ2 H2=>tb {D with nx:=N,ct:=N,bk:=D.nx} σ2 H2):=by
 refine⟨λi m σ H=>m=n-i/\i<=n/\Pv i σ H,⟨n,by simp,Kk _,h0⟩,?_⟩;rintro i m σ H ⟨rfl,hi,p⟩
 by_cases a:i<n
 ·refine .inr ⟨a,Pv (i+1),λσ' H' p'=>⟨n-(i+1),⋯,rfl,a,p'⟩,λx H' y=>?_⟩
  obtain⟨e,y⟩:=y;subst e y;exact hs i σ _ a p
 ·have e:i=n:=by omega
  subst e;exact .inl ⟨Kj _,hd σ H p⟩
abbrev R2:=V->V->Hp->VK->Prop
def bj(X:Cx)(f:Value->Value->Sem Value)(r:R2):Prop:=
 ∀(pins:KZ) (s:K1) (σ:St) (H:Hp) (x y:V) (v u:Value) (Q:VK),Inv X pins σ H s->bF x v->bF y u->r x y H Q ->
  wpAny (model X.prog X.w) X.A (f v u) (EP X pins σ Q) X.xe s
def eQ(X:Cx)(f:Value)(r:List V->Hp->VK->Prop):Prop:=
 ∀(pins:KZ) (s:K1) (σ:St) (H:Hp) (xs:List V) (us:K2) (Q:VK),Inv X pins σ H s->bp xs us->r xs H Q ->
  wpAny (model X.prog X.w) X.A (call f us) (EP X pins σ Q) X.xe s
def Ev(r:R2)(ta tb:TE):TE:=λσ H Q=>ta σ H λx H1=>tb σ H1 λy H2=>r x y H2 Q
def rI(C:Int->Int->Prop)(g:Int->Int->V):R2:=λx y H Q=>∃i j,x=.int i/\y=.int j/\C i j/\Q (g i j) H
def yg(g:Int->Int->V):R2:=λx y H Q=>∃i j,x=.int i/\y=.int j/\Q (g i j) H
section
variable {X:Cx}{a b c:Expr}{ta tb tc:TE}{pos:Pos}
theorem EB(ha:PE X a ta)(hb:PE X b tb){pins:KZ}{s:K1}{σ:St}{H:Hp}{R:V->V->Hp->Prop}(I:Inv X pins σ H s)
  (h:ta σ H λx H1=>tb σ H1 λy H2=>R x y H2) {Q:KW} {f:Value->Value->Sem Value}
  (hf:∀v u s2 x y H2,Inv X pins σ H2 s2->bF x v->bF y u->R x y H2->wpAny (model X.prog X.w) X.A (f v u) Q X.xe s2) :
  wpAny (model X.prog X.w) X.A (eval a X.env) (λv s₁=>wpAny (model X.prog X.w) X.A (eval b X.env) (λu s₂=>wpAny (model X.prog X.w) X.A (f v u) Q X.xe s₂) X.xe s₁) X.xe s:=by
 refine cq (ha pins s σ H _ I h) λv c ⟨x,H1,k,e,i⟩=>?_;refine cq (hb pins c σ H1 _ k i) λu s2 ⟨y,H2,j,d,g⟩=>?_;exact hf v u s2 x y H2 j e d g
theorem aw{op:Operator}{r:R2}(ho:bj X (binaryOp op) r)(ha:PE X a ta)(hb:PE X b tb):PE X (.BinOp a op b pos) (Ev r ta tb):=by
 intro c s σ H Q I h;exact wpAny_BinOp (EB ha hb I h λv u d x y H2 i g e q=>ho c d σ H2 x y v u Q i g e q)
theorem Gj{f:Value->Value->Sem Value}{C:Int->Int->Prop}{g:Int->Int->Int}
  (rule:∀(i j:Int) (t u:Tok) (s:K1) (Q:KW) (E:KW),C i j->Q (.int (g i j) s.toks) {s with toks:=s.toks+1}->wpAny (model X.prog X.w) X.A (f (.int i t) (.int j u)) Q E s) :
  bj X f (rI C λi j=>.int (g i j)):=by
 intro pins s σ H x y v u Q I rx ry h;obtain⟨i,j,rfl,rfl,b,q⟩:=h;obtain⟨t,rfl⟩:=rx;obtain⟨a,rfl⟩:=ry;exact rule i j t a s _ _ b ⟨.int (g i j),H,I.tok _,⟨_,rfl⟩,q⟩
theorem Fm{f:Value->Value->Sem Value}{g:Int->Int->Int}
  (rule:∀(i j:Int) (t u:Tok) (s:K1) (Q:KW) (E:KW),Q (.int (g i j) s.toks) {s with toks:=s.toks+1}->wpAny (model X.prog X.w) X.A (f (.int i t) (.int j u)) Q E s) :
  bj X f (yg λi j=>.int (g i j)):=by
 intro pins s σ H x y v u Q I rx ry h;obtain⟨i,j,rfl,rfl,q⟩:=h;obtain⟨t,rfl⟩:=rx;obtain⟨a,rfl⟩:=ry;exact rule i j t a s _ _ ⟨.int (g i j),H,I.tok _,⟨_,rfl⟩,q⟩
theorem Cr{f:Value->Value->Sem Value}{g:Int->Int->Bool}
  (rule:∀(i j:Int) (t u:Tok) (s:K1) (Q:KW) (E:KW),Q (.bool (g i j)) s->wpAny (model X.prog X.w) X.A (f (.int i t) (.int j u)) Q E s) :
  bj X f (yg λi j=>.bl (g i j)):=by
 intro pins s σ H x y v u Q I rx ry h;obtain⟨i,j,rfl,rfl,q⟩:=h;obtain⟨t,rfl⟩:=rx;obtain⟨a,rfl⟩:=ry;exact rule i j t a s _ _ ⟨.bl (g i j),H,I,rfl,q⟩
def AI(i j:Int):Prop:=(-(2 ^ 64)<i/\i<2 ^ 64)\/(-(2 ^ 64)<j/\j<2 ^ 64)
theorem AI.ok{i j:Int}(h:AI i j):IntMulOk i j:=by
 rcases h with⟨h1,h2⟩ | ⟨h1,h2⟩
 ·exact .of_left (intBits_le_64 h1 h2)
 ·exact .of_right (intBits_le_64 h1 h2)
theorem bO:bj X (binaryOp .Add) (yg λi j=>.int (i+j)):=Fm λ_ _ _ _ _ _ _ q=>add_int q
theorem ii:bj X (binaryOp .Sub) (yg λi j=>.int (i-j)):=Fm λ_ _ _ _ _ _ _ q=>sub_int q
theorem dz:bj X (binaryOp .Mult) (rI AI λi j=>.int (i*j)):=Gj λ_ _ _ _ _ _ _ hc q=>mul_int q hc.ok
theorem a_:bj X (binaryOp .Mod) (rI (λ_ j=>0<j) λi j=>.int (i%j)):=Gj λi j _ _ _ _ _ hc q=>by
 have h1:(0:Int)<j:=hc;exact mod_int' ⋯ (by rw[Int.fmod_eq_emod_of_nonneg i ⋯];exact q)
end
def yD:V->V->Bool
 | .non,.non=>true | .non,.int _=>true | .int _,.non=>true | .non,.bl _=>true | .bl _,.non=>true | .non,.str _=>true | .str _,.non=>true
 | .int _,.int _=>true | .bl _,.bl _=>true | .str _,.str _=>true | .byt _,.byt _=>true
 | .int _,.str _=>true | .str _,.int _=>true | .bl _,.str _=>true | .str _,.bl _=>true
 |_,_=>false
def GN:R2:=λx y H Q=>yD x y=true/\Q (.bl (decide (x=y))) H
def GA:R2:=λx y H Q=>yD x y=true/\Q (.bl (!decide (x=y))) H
theorem xa{i j:Int}:decide (V.int i=V.int j)=(i==j):=by
 rw[Bool.eq_iff_iff];simp
theorem A2{i j:Bool}:decide (V.bl i=V.bl j)=(i==j):=by
 rw[Bool.eq_iff_iff];simp
theorem xx{i j:Str}:decide (V.str i=V.str j)=(i==j):=by
 rw[Bool.eq_iff_iff];simp
theorem xw{i j:Array UInt8}:decide (V.byt i=V.byt j)=(i.toList==j.toList):=by
 rw[Bool.eq_iff_iff];cases i;cases j;simp
section
variable {X:Cx}{a b c:Expr}{ta tb tc:TE}{pos:Pos}
theorem bT{pins:KZ}{σ:St}{H:Hp}{s:K1}{Q:VK}{k k':Bool}(I:Inv X pins σ H s)(q:Q (.bl k) H)(e:k=k'):EP X pins σ Q (.bool k') s:=by
 subst e;exact⟨.bl k,H,I,rfl,q⟩
theorem dm:bj X (compareOp .Eq) GN:=by
 intro pins s σ H x y v u Q I rx ry h;obtain⟨b,q⟩:=h;cases x with
 |non=>
  cases rx;cases y with
  |non=>cases ry;exact PySem.EqNone.eq_none_none (bT I q (by simp))
  |bl j=>cases ry;exact PySem.EqNone.eq_none_bool (bT I q (by simp))
  |int j=>obtain⟨a,rfl⟩:=ry;exact PySem.EqNone.eq_none_int (bT I q (by simp))
  |str j=>obtain⟨a,rfl⟩:=ry;exact PySem.EqNone.eq_none_str (bT I q (by simp))
  |_=>exact q0Q (show false=true from b) Kl
 |bl i=>
  cases rx;cases y with
  |non=>cases ry;exact PySem.EqNone.eq_bool_none (bT I q (by simp))
  |bl j=>cases ry;exact eq_bool (bT I q A2)
  |str j=>obtain⟨a,rfl⟩:=ry;exact PySem.EqMixed.eq_bool_str (bT I q (by simp))
  |_=>exact q0Q (show false=true from b) Kl
 |int i=>
  obtain⟨t,rfl⟩:=rx;cases y with
  |non=>cases ry;exact PySem.EqNone.eq_int_none (bT I q (by simp))
  |int j=>obtain⟨a,rfl⟩:=ry;exact eq_int (bT I q xa)
  |str j=>obtain⟨a,rfl⟩:=ry;exact PySem.EqMixed.eq_int_str (bT I q (by simp))
  |_=>exact q0Q (show false=true from b) Kl
 |str i=>
  obtain⟨t,rfl⟩:=rx;cases y with
  |non=>cases ry;exact PySem.EqNone.eq_str_none (bT I q (by simp))
  |bl j=>cases ry;exact PySem.EqMixed.eq_str_bool (bT I q (by simp))
  |int j=>obtain⟨a,rfl⟩:=ry;exact PySem.EqMixed.eq_str_int (bT I q (by simp))
  |str j=>obtain⟨a,rfl⟩:=ry;exact eq_str (bT I q xx)
  |_=>exact q0Q (show false=true from b) Kl
 |byt i=>
  obtain⟨t,rfl⟩:=rx;cases y with
  |byt j=>obtain⟨a,rfl⟩:=ry;exact PySem.W.eq_bytes (bT I q xw)
  |_=>exact q0Q (show false=true from b) Kl
 |_=>cases y<;>exact q0Q (show false=true from b) Kl
theorem DJ:bj X (compareOp .NotEq) GA:=by
 intro pins s σ H x y v u Q I rx ry h;obtain⟨b,q⟩:=h;cases x with
 |non=>
  cases rx;cases y with
  |non=>cases ry;exact PySem.EqNone.ne_none_none (bT I q (by simp))
  |bl j=>cases ry;exact PySem.EqNone.ne_none_bool (bT I q (by simp))
  |int j=>obtain⟨a,rfl⟩:=ry;exact PySem.EqNone.ne_none_int (bT I q (by simp))
  |str j=>obtain⟨a,rfl⟩:=ry;exact PySem.EqNone.ne_none_str (bT I q (by simp))
  |_=>exact q0Q (show false=true from b) Kl
 |bl i=>
  cases rx;cases y with
  |non=>cases ry;exact PySem.EqNone.ne_bool_none (bT I q (by simp))
  |bl j=>cases ry;exact ne_bool (bT I q (q0R not A2))
  |str j=>obtain⟨a,rfl⟩:=ry;exact PySem.EqMixed.ne_bool_str (bT I q (by simp))
  |_=>exact q0Q (show false=true from b) Kl
 |int i=>
  obtain⟨t,rfl⟩:=rx;cases y with
  |non=>cases ry;exact PySem.EqNone.ne_int_none (bT I q (by simp))
  |int j=>obtain⟨a,rfl⟩:=ry;exact ne_int (bT I q (q0R not xa))
  |str j=>obtain⟨a,rfl⟩:=ry;exact PySem.EqMixed.ne_int_str (bT I q (by simp))
  |_=>exact q0Q (show false=true from b) Kl
 |str i=>
  obtain⟨t,rfl⟩:=rx;cases y with
  |non=>cases ry;exact PySem.EqNone.ne_str_none (bT I q (by simp))
  |bl j=>cases ry;exact PySem.EqMixed.ne_str_bool (bT I q (by simp))
  |int j=>obtain⟨a,rfl⟩:=ry;exact PySem.EqMixed.ne_str_int (bT I q (by simp))
  |str j=>obtain⟨a,rfl⟩:=ry;exact ne_str (bT I q (q0R not xx))
  |_=>exact q0Q (show false=true from b) Kl
 |byt i=>
  obtain⟨t,rfl⟩:=rx;cases y with
  |byt j=>obtain⟨a,rfl⟩:=ry;exact PySem.W.ne_bytes (bT I q (q0R not xw))
  |_=>exact q0Q (show false=true from b) Kl
 |_=>cases y<;>exact q0Q (show false=true from b) Kl
theorem kn:bj X (compareOp .Lt) (yg λi j=>.bl (decide (i<j))):=Cr λ_ _ _ _ _ _ _ q=>lt_int q
theorem pZ:bj X (compareOp .LtE) (yg λi j=>.bl (decide (i<=j))):=Cr λ_ _ _ _ _ _ _ q=>le_int q
theorem lY:bj X (compareOp .Gt) (yg λi j=>.bl (decide (j<i))):=Cr λ_ _ _ _ _ _ _ q=>gt_int q
theorem Dy:bj X (compareOp .GtE) (yg λi j=>.bl (decide (j<=i))):=Cr λ_ _ _ _ _ _ _ q=>ge_int q
theorem zw:bj X (compareOp .In) (λx y H Q=>∃i j,x=.str i/\y=.str j/\Q (.bl (!(Builtin.Str.occurrences j i 0 j.length 1).isEmpty)) H):=by
 intro pins s σ H x y v u Q I rx ry h;obtain⟨i,j,rfl,rfl,q⟩:=h;obtain⟨t,rfl⟩:=rx;obtain⟨t',rfl⟩:=ry;exact in_str (bT I q rfl)
theorem w_:bj X (compareOp .IsNot) (λx y H Q=>y=.non/\Q (.bl (!decide (x=.non))) H):=by
 intro pins s σ H x y v u Q I rx ry h;obtain⟨rfl,q⟩:=h;cases ry;refine isnot_none_gen (bT I q ?_);cases x<;>first
  | (cases rx;rfl)
  | (obtain⟨t,rfl⟩:=rx;rfl)
theorem su:bj X (compareOp .NotIn) (λx y H Q=>∃i j,x=.str i/\y=.str j/\Q (.bl (!(!(Builtin.Str.occurrences j i 0 j.length 1).isEmpty))) H):=by
 intro pins s σ H x y v u Q I rx ry h;obtain⟨i,j,rfl,rfl,q⟩:=h;obtain⟨t,rfl⟩:=rx;obtain⟨t',rfl⟩:=ry;exact notIn_str (bT I q rfl)
theorem aQ(b:Expr){op:CmpOp}(h:autoParam (op≠.In) zz1._auto_1)(h2:autoParam (op≠.NotIn) zz1._auto_1):behindInMarks op b=false:=by
 have c:(op==CmpOp.In)=false:=by cases op<;>first | rfl | exact q0Q rfl h
 have a:(op==CmpOp.NotIn)=false:=by cases op<;>first | rfl | exact q0Q rfl h2
 cases b<;>simp[behindInMarks,c,a]
theorem sr{op:CmpOp}{r:R2}(ho:bj X (compareOp op) r)(ha:PE X a ta)(hb:PE X b tb)(hm:behindInMarks op b=false):PE X (.Compare a [op] [b] pos) (Ev r ta tb):=by
 intro c s σ H Q I h;exact wpAny_Compare1 (EB ha hb I h λv u d x y H2 i g e q=>ho c d σ H2 x y v u Q i g e q) hm
def xG(t:TE):TT:=λσ H Q=>t σ H λx H'=>∃k,x=.bl k/\Q k H'
theorem aL{op:CmpOp}{r:R2}(ho:bj X (compareOp op) r)(ha:PE X a ta)(hb:PE X b tb)(hm:behindInMarks op b=false):PT X (.Compare a [op] [b] pos) (xG (Ev r ta tb)):=by
 intro d s σ H Q I h;refine wpAny_isTrue_Compare1 (cq (ha d s σ H _ I h) λv i ⟨x,H1,B,m,p⟩=>cq (hb d i σ H1 _ B p) λu g ⟨y,H2,w,l,o⟩=>
  cq (ho d g σ H2 x y v u _ w m l o) λc s3 ⟨z,C,q,j,k,e,n⟩=>?_) hm
 subst e;cases j;exact wpAny_truthy_bool ⟨C,q,n⟩
def wx(r r':R2)(ta tb tc:TE):TE:=λσ H Q=>ta σ H λx H1=>tb σ H1 λy H2=>r x y H2 λz H3=>∃k,z=.bl k /\
 (if k=true then tc σ H3 λw' H4=>r' y w' H4 Q else Q (.bl false) H3)
theorem uG{op op':CmpOp}{r r':R2}(ho:bj X (compareOp op) r)(ho':bj X (compareOp op') r')(ha:PE X a ta)(hb:PE X b tb)(hc:PE X c tc)
  (hm:lastMarks [op,op'] [b,c]=false:=by with_unfolding_all rfl):PE X (.Compare a [op,op'] [b,c] pos) (wx r r' ta tb tc):=by
 intro g s σ H Q I h;refine Compare_chain (cq (ha g s σ H _ I h) λv w ⟨x,H1,R,D,L⟩=>chain_link (cq (hb g w σ H1 _ R L) λu q ⟨y,H2,O,i,J⟩=>
  cq (ho g q σ H2 x y v u _ O D i J) λd p ⟨z,m,l,C,k,e,j⟩=>?_)) hm
 subst e;cases C;refine wpAny_truthy_bool ?_;cases k with
 |false=>exact ite_ff ⟨.bl false,m,l,rfl,j⟩
 |true=>exact ite_tt (chain_last (cq (hc g p σ m _ l j) λw' o ⟨n,S,M,B,G⟩=>ho' g o σ S y n u w' Q M i B G))
theorem lE:(sizeLine:Nat)<2 ^ 63:=by rw[q0W];decide
theorem fO:bj X (binaryOp .Add) (λx y H Q=>∃i j,x=.str i/\y=.str j/\i.length+j.length<=sizeLine/\Q (.str (i++j)) H):=by
 intro pins s σ H x y v u Q I rx ry h;obtain⟨i,j,rfl,rfl,b,q⟩:=h;obtain⟨t,rfl⟩:=rx;obtain⟨a,rfl⟩:=ry;exact add_str (λa tk=>⟨.str (i++j),H,I.tok _,⟨_,rfl⟩,q⟩) b
theorem nB{x:V}{us:K2}(r:bp [x] us):∃u,us=[u]/\bF x u:=by
 cases r with
 |cons r1 r2=>cases r2;exact⟨_,rfl,r1⟩
theorem FP{x y:V}{us:K2}(r:bp [x,y] us):∃u w',us=[u,w']/\bF x u/\bF y w':=by
 cases r with
 |cons r1 r2=>
  cases r2 with
  |cons r3 r4=>cases r4;exact⟨_,_,rfl,r1,r3⟩
theorem qy(hc:X.calm=true):eQ X (.builtin "max") (λxs H Q=>∃i j,xs=[.int i,.int j]/\Q (.int (if j>i then j else i)) H):=by
 intro pins s σ H xs us Q I r h;obtain⟨i,j,rfl,q⟩:=h;obtain⟨u,w',rfl,⟨t,rfl⟩,⟨t',rfl⟩⟩:=FP r;refine max_two_ints (I.ok.hd hc) λh' tk k=>⟨_,H,I.kept k,?_,q⟩
 by_cases a:j>i
 ·rw[q07 a,q07 a];exact⟨_,rfl⟩
 ·rw[q06 a,q06 a];exact⟨_,rfl⟩
end
structure vB(h:Heap)(x dx C:Addr)(mA:K4):Prop where
 obj:h.get? x=some (PySem.W.instObj C dx)
 ns:h.Ns1 dx mA
 ne:dx≠x
theorem ya{h:Heap}{dx:Addr}{mA:K4}(n:h.Ns1 dx mA):∃od,h.get? dx=some od/\∀name,PySem.W.lookIn name od=some (mA name):=by
 obtain⟨o,es,ep,ho,hd,hk,_,hm⟩:=n;refine⟨o,ho,λname=>?_⟩;have e:=hm name;unfold nsFind findBy at e;rw[<- Array.find?_toList]at e;unfold PySem.W.lookIn;rw[hd];dsimp only
 split
 ·rename_i y q
  rw[q]at e;exact q0R some e
 ·rename_i q
  rw[q]at e;have a:es.toList.any (·.refKey)=false:=by
   rw[List.any_eq_false];intro y hy;obtain⟨z,t,hkey⟩:=hk y (Array.mem_toList_iff.mp hy);simp[DictEntry.refKey,hkey]
  have a':¬ es.toList.any (·.refKey)=true:=by rw[a];exact Kl
  rw[q06 a'];exact q0R some e
theorem vB.look{h:Heap}{x dx C:Addr}{mA:K4}(I:vB h x dx C mA):∃od,PySem.W.InstAt h x (PySem.W.instObj C dx) C (some od)/\∀name,PySem.W.lookIn name od=some (mA name):=
 let ⟨od,ho,hl⟩:=ya I.ns
 ⟨od,⟨I.obj,rfl,rfl,ho⟩,hl⟩
section
variable {prog:K6}{w:K9}{A:K8}{E:KW}{s:K1}{K:KY}{x dx C f:Addr}{mA:K4}{name:Str}{v:Value}
theorem Cc{expr:Bool}{Q:KW}(X:K.In s.heap)(I:vB s.heap x dx C mA)(hg:PySem.W.plainGet K C name=true)(hh:PySem.W.hasDictIn K C=true)
  (ha:PySem.W.findIn K (.ref C) name=some none) (hv:mA name=some v) (hv':PySem.W.handedIn v=true) (h:Q v {s with toks:=s.toks+1}) :
  wpAny (model prog w) A (getAttr (.ref x) name expr) Q E s:=by
 obtain⟨od,J,a⟩:=I.look;exact PySem.W.get_value X J (PySem.W.plainGet_of hg).1 (PySem.W.findObj_own hh ha rfl (by rw[a,hv])) hv' h
theorem AV{pl:Sem Bool}{Q:Value×List Value->Shared->Prop}(X:K.In s.heap)(I:vB s.heap x dx C mA)(hg:PySem.W.plainGet K C name=true)
  (hf:PySem.W.findIn K (.ref C) name=some (some (.ref f))) (ht:PySem.W.isFn K (.ref f)=true) (hv:mA name=none) (h:Q (.ref f,[.ref x]) s) :
  wpAny (model prog w) A (getMethod (.ref x) name pl) Q E s:=by
 obtain⟨a,J,b⟩:=I.look;exact PySem.W.method_fn X J (PySem.W.plainGet_of hg).1 (PySem.W.plainGet_of hg).2 hf (beq_iff_eq.mp ht) (by show(PySem.W.lookIn name a).map (·.isSome)=some false;rw[b,hv];rfl) h
theorem CN{ns:K7}{Q:Unit->Shared->Prop}(X:K.In s.heap)(I:vB s.heap x dx C mA)
  (hs:PySem.W.findIn K (.ref C) "__setattr__"=some (some (.builtin "object.__setattr__"))) (hp:PySem.W.plainOver K C=true) (ht:PySem.W.takerIn K C name=some none) (hh:PySem.W.hasDictIn K C=true)
  (hw:PySem.Within mA ns) (hsz:ns.length<=sizeLine)
  (h:∀h',vB h' x dx C (λy=>if y=name then some v else mA y)->Heap.SameBut dx s.heap h'->Q () {s with heap:=h',toks:=s.toks+2}) :
  wpAny (model prog w) A (setAttr (.ref x) name v) Q E s:=by
 obtain⟨od,J,hl⟩:=I.look;refine PySem.W.set_plain X J hs (PySem.W.osa_open (s:={s with toks:=s.toks+1}) (r:=none) X J hp ht λb=>?_);obtain⟨cd,l,i⟩:=PySem.W.any_some hh;have k:s.heap.get? x=some ⟨.ref C,some dx,.plain,#[]⟩:=I.obj;refine q04 (q05 (q04 (q04 (wpAny_loadPart k (q04 (PySem.W.Looks.here (s:={s with toks:=s.toks+1}) (PySem.W.looks_clsIn X l) ?_))))));rw[i];refine q05 (a:=some dx) (q04 (q05 (q04 ?_)));refine wpAny_nsSet1 (s:={s with toks:=s.toks+1}) I.ns λh' d c=>?_;obtain⟨oD,esD,epD,e,g,j⟩:=d.count (PySem.Within.cons name v hw);refine q04 (wpAny_lookBehind e (by rw[g];exact pastItsLine_dict (Ks j (by rw[J9];omega))) ?_);exact q05 (h _ ⟨(c.2 _ (Ne.symm I.ne)).trans I.obj,d,I.ne⟩ c)
theorem Ab{R:Result->Shared->Prop}{vs:K2}{kw:List (Str×Value)}(X:K.In s.heap)(hm:PySem.W.makesIn K C=true)
  (hi:PySem.W.findIn K (.ref C) "__init__"=some (some (.ref f))) (hf:PySem.W.typeIn K (.ref f)=some (.type "function"))
  (h:codeAny (model prog w) (A.under (.builtin "type.__call__" ⟨.ref C::vs,kw⟩)) (.call (.ref f) ⟨.ref (s.heap.objs.size+1)::vs,kw⟩) (PySem.W.InitBack (s.heap.objs.size+1) R)
   {s with heap:=(s.heap.push PySem.W.emptyDict).push (PySem.W.instObj C s.heap.objs.size)}) :
  codeAny (model prog w) A (.call (.ref C) ⟨vs,kw⟩) R s:=by
 obtain⟨hh,g,d,t,os⟩:=s;exact PySem.W.make_core (PySem.W.makes_of X hm) (PySem.W.looks_findIn X hi) (λa=>PySem.W.bind_fn X a hf) (.inl rfl) h
end
def cJ(f:Str)(v:V):List (Str×V)->List (Str×V)
 | []=>[(f,v)]
 | (g,x)::r=>if g=f then(g,v)::r else(g,x)::cJ f v r
theorem mf(f g:Str)(v:V):∀fs:List (Str×V),(cJ f v fs).lookup g=if g=f then some v else fs.lookup g
 | []=>by
  show List.lookup g [(f,v)]=_
  by_cases h:g=f
  ·have hb:(g==f)=true:=beq_iff_eq.mpr h
   simp only[List.lookup,hb,q07 h]
  ·have hb:(g==f)=false:=beq_eq_false_iff_ne.mpr h
   simp only[List.lookup,hb,q06 h]
 | (k,x)::r=>by
  have ih:=mf f g v r;rw[show cJ f v ((k,x)::r)=(if k=f then(k,v)::r else(k,x)::cJ f v r) from rfl]
  by_cases hk:k=f
  ·rw[q07 hk]
   by_cases h:g=k
   ·have hb:(g==k)=true:=beq_iff_eq.mpr h
    simp only[List.lookup,hb,q07 (h.trans hk)]
   ·have hb:(g==k)=false:=beq_eq_false_iff_ne.mpr h
    simp only[List.lookup,hb,q06 (λe:g=f=>h (e.trans hk.symm))]
  ·rw[q06 hk]
   by_cases h:g=k
   ·have hb:(g==k)=true:=beq_iff_eq.mpr h
    simp only[List.lookup,hb,q06 (λe:g=f=>hk (h.symm.trans e))]
   ·have hb:(g==k)=false:=beq_eq_false_iff_ne.mpr h
    simp only[List.lookup,hb];exact ih
theorem k_(f:Str)(v:V):∀fs:List (Str×V),f∈(cJ f v fs).map (·.1)/\∀g,g∈fs.map (·.1)->g∈(cJ f v fs).map (·.1)
 | []=>⟨by simp[cJ],λg h=>by simp at h⟩
 | (k,x)::r=>by
  obtain⟨i1,i2⟩:=k_ f v r;rw[show cJ f v ((k,x)::r)=(if k=f then(k,v)::r else(k,x)::cJ f v r) from rfl]
  by_cases hk:k=f
  ·rw[q07 hk]
   subst hk;exact⟨by simp,λg h=>by simpa using h⟩
  ·rw[q06 hk]
   refine⟨?_,λg h=>?_⟩
   ·rw[Kq]
    exact Kc _ i1
   ·rw[Kq]at h ⊢
    rcases Kb.mp h with e | e
    ·exact Kb.mpr (.inl e)
    ·exact Kc _ (i2 g e)
theorem c8(f:Str)(v:V):∀fs:List (Str×V),(cJ f v fs).length<=fs.length+1
 | []=>by simp[cJ]
 | (k,x)::r=>by
  have ih:=c8 f v r;rw[show cJ f v ((k,x)::r)=(if k=f then(k,v)::r else(k,x)::cJ f v r) from rfl]
  by_cases hk:k=f
  ·rw[q07 hk,J9,J9];omega
  ·rw[q06 hk,J9,J9];omega
theorem jh.some_of{v:V}{o:Option Value}(r:jh (some v) o):∃u,o=some u/\bF v u:=by
 cases o with
 |none=>exact(show False from r).elim
 |some u=>exact⟨u,rfl,r⟩
theorem jh.none_of{o:Option Value}(r:jh none o):o=none:=by
 cases o with
 |none=>rfl
 |some u=>exact(show False from r).elim
theorem yy{v:V}{u:Value}(r:bF v u):PySem.W.handedIn u=true:=by
 cases v with
 |non=>cases(show u=Value.none from r);rfl
 |bl b=>cases(show u=Value.bool b from r);rfl
 |int i=>obtain⟨t,e⟩:=(show ∃t,u=Value.int i t from r);cases e;rfl
 |str x=>obtain⟨t,e⟩:=(show ∃t,u=Value.str x t from r);cases e;rfl
 |byt b=>obtain⟨t,e⟩:=(show ∃t,u=Value.bytes b t from r);cases e;rfl
 |flt b=>obtain⟨t,e⟩:=(show ∃t,u=Value.float b t from r);cases e;rfl
 |ref a=>cases(show u=Value.ref a from r);rfl
 |ty n=>cases(show u=Value.type n from r);rfl
section
variable {P:K6}{w:K9}{H H':Hp}{h h':Heap}{a C dx:Addr}{fs fs':List (Str×V)}
theorem mT(hok:jf P w H h)(e:H a=some (.ins C dx fs)):∃mA,vB h a dx C mA/\(∀f,jh (fs.lookup f) (mA f))/\PySem.Within mA (fs.map (·.1))/\fs.length<=1000/\H dx=some (.own a):=by
 obtain⟨d,z,c,b,mA,n,r,q⟩:=(show ce P w H h a (.ins C dx fs) from hok a _ e);exact⟨mA,⟨b,n,c⟩,r,q,z,d⟩
end
structure jv(K:KY)(C:Addr):Prop where
 pg:PySem.W.plainGet K C Str.empty=true
 hd:PySem.W.hasDictIn K C=true
 po:PySem.W.plainOver K C=true
 sa:PySem.W.findIn K (.ref C) "__setattr__"=some (some (.builtin "object.__setattr__"))
theorem jv.get{K:KY}{C:Addr}(c:jv K C)(f:Str):PySem.W.plainGet K C f=true:=c.pg
def aF(K:KY)(C:Addr)(f:Str):Prop:=PySem.W.findIn K (.ref C) f=some none
theorem aF.taker{K:KY}{C:Addr}{f:Str}(n:aF K C f):PySem.W.takerIn K C f=some none:=by
 unfold PySem.W.takerIn;rw[show PySem.W.findIn K (.ref C) f=some none from n]
 rfl
structure iP(K:KY)(C:Addr)(m:Str)(f:Addr):Prop where
 at_:PySem.W.findIn K (.ref C) m=some (some (.ref f))
 fn:PySem.W.isFn K (.ref f)=true
 kp:PySem.W.keepIn K (.ref f)=true
section
variable {X:Cx}{pins:KZ}{σ:St}{H:Hp}{s:K1}{a C dx:Addr}{fs:List (Str×V)}{f:Str}{v:V}{A:K8}{E:KW}
theorem wP{b:Bool}{Q:KW}(I:Inv X pins σ H s)(e:H a=some (.ins C dx fs))(c:jv X.K C)(n:aF X.K C f)(l:fs.lookup f=some v)
  (h:∀u s',Inv X pins σ H s'->bF v u->Q u s'):wpAny (model X.prog X.w) A (getAttr (.ref a) f b) Q E s:=by
 obtain⟨g,O,r,_,_,_⟩:=mT I.hok e;obtain⟨u,i,d⟩:=jh.some_of (v:=v) (o:=g f) (by rw[<- l];exact r f);exact Cc I.kIn O (c.get f) c.hd n i (yy d) (h u _ (I.tok _) d)
theorem fw{m:Str}{g:Addr}{pl:Sem Bool}{Q:Value×List Value->Shared->Prop}(I:Inv X pins σ H s)(e:H a=some (.ins C dx fs))(c:jv X.K C)(k:iP X.K C m g)(l:fs.lookup m=none)
  (h:Q (.ref g,[.ref a]) s):wpAny (model X.prog X.w) A (getMethod (.ref a) m pl) Q E s:=by
 obtain⟨b,O,r,_,_,_⟩:=mT I.hok e;have d:b m=none:=jh.none_of (by rw[<- l];exact r m);exact AV I.kIn O (c.get m) k.at_ k.fn d h
theorem v3{y:V}{u:Value}{Q:Unit->Shared->Prop}(I:Inv X pins σ H s)(e:H a=some (.ins C dx fs))(c:jv X.K C)(n:aF X.K C f)(hl:fs.length<1000)(ry:bF y u)
  (h:∀s',Inv X pins σ (aD H a (.ins C dx (cJ f y fs))) s'->Q () s'):wpAny (model X.prog X.w) A (setAttr (.ref a) f u) Q E s:=by
 obtain⟨j,O,r,i,_,k⟩:=mT I.hok e;have m:(fs.map (·.1)).length<=sizeLine:=by rw[JZ,q0W];omega
 refine CN I.kIn O c.sa c.po n.taker c.hd i m λw d l=>h _ ?_;have hd:∃o,w.get? dx=some o:=let ⟨o,_,_,e',_⟩:=d.ns;⟨o,e'⟩
 refine I.write (x:=a) (e:=dx) (by rw[e];exact True.intro) (.inr k) (λb q v z=>(l.2 b v).trans z) hd ?_;refine⟨by rw[ar O.ne];exact k,?_,O.ne,d.obj,_,d.ns,λg=>?_,λg p=>?_⟩
 ·have:=c8 f y fs;omega
 ·show jh ((cJ f y fs).lookup g) (if g=f then some u else j g)
  rw[mf]
  by_cases q:g=f
  ·rw[q07 q,q07 q];exact ry
  ·rw[q06 q,q06 q];exact r g
 ·by_cases q:g=f
  ·rw[q];exact(k_ f y fs).1
  ·refine(k_ f y fs).2 g (i g λz=>p ?_)
   show(if g=f then some u else j g)=none;rw[q06 q];exact z
theorem Inv.made(I:Inv X pins σ H s):Inv X pins σ (aD (aD H s.heap.objs.size (.own (s.heap.objs.size+1))) (s.heap.objs.size+1) (.ins C s.heap.objs.size []))
  {s with heap:=(s.heap.push PySem.W.emptyDict).push (PySem.W.instObj C s.heap.objs.size)}:=by
 have d:(s.heap.push PySem.W.emptyDict).get? s.heap.objs.size=some PySem.W.emptyDict:=J4 s.heap rfl;have k:((s.heap.push PySem.W.emptyDict).push (PySem.W.instObj C s.heap.objs.size)).get? (s.heap.objs.size+1)=some (PySem.W.instObj C s.heap.objs.size):=by
  have:=J4 (s.heap.push PySem.W.emptyDict) (o:=PySem.W.instObj C s.heap.objs.size) rfl
  rwa [Heap.size_push]at this
 have j:(s.heap.push PySem.W.emptyDict).Ns s.heap.objs.size (λ_=>none):=⟨PySem.W.emptyDict,#[],_,d,rfl,(λe i=>q0Q i (by simp)),λ_=>rfl⟩;have l:=I.laid (a:=s.heap.objs.size) (o:=.own (s.heap.objs.size+1)) (h':=s.heap.push PySem.W.emptyDict) (t':=s.toks) (λb u q=>JY _ q) (Kj _) ⟨_,d⟩;refine l.laid (a:=s.heap.objs.size+1) (o:=.ins C s.heap.objs.size []) (t':=s.toks) (λb u q=>JY _ q) (Nat.le_of_eq (Heap.size_push _ _)) ?_;have c:s.heap.objs.size≠s.heap.objs.size+1:=Kf (Ku _);refine⟨by rw[ar c,af],Kk _,c,k,λ_=>none,(Heap.Ns1.of_empty j).at λo q=>JY _ q,λ_=>True.intro,λy g=>q0Q rfl g⟩
theorem Dl{prog:K6}{w:K9}{env:Env}{e:Expr}{f:Str}{pos:Pos}{s:K1}{Q:KW}(hb:attributeBase e f env (eval e env)=eval e env)
  (h:wpAny (model prog w) A (eval e env) (λo s₁=>wpAny (model prog w) A (getAttr o f true) Q E s₁) E s):wpAny (model prog w) A (eval (.Attribute e f pos) env) Q E s:=
 Attribute_any_ h (by rw[arm_eval_Attribute,hb])
end
def CO(K:KY)(ta:TE)(f:Str):TE:=λσ H Q=>ta σ H λx H1=>∃a C dx fs v,x=.ref a/\H1 a=some (.ins C dx fs)/\jv K C/\aF K C f/\fs.lookup f=some v/\Q v H1
def D6(K:KY)(ta tv:TE)(f:Str):TS:=λD σ H=>tv σ H λy H1=>ta σ H1 λx H2=>∃a C dx fs,x=.ref a/\H2 a=some (.ins C dx fs)/\jv K C/\aF K C f/\fs.length<1000 /\
 D.nx σ (aD H2 a (.ins C dx (cJ f y fs)))
section
variable {X:Cx}{o e value:Expr}{f:Str}{pos pos' tpos:Pos}{ta tv:TE}
theorem cC(he:PE X e ta)(hb:attributeBase e f X.env (eval e X.env)=eval e X.env):PE X (.Attribute e f pos) (CO X.K ta f):=by
 intro b s σ H Q I h;refine Dl hb (cq (he b s σ H _ I h) λu s1 ⟨x,H1,m,d,a,C,dx,fs,v,i,j,c,n,l,q⟩=>?_);subst i;obtain rfl:u=Value.ref a:=d;exact wP m j c n l λu' s2 k g=>⟨v,H1,k,g,q⟩
theorem cW(ha:PE X o ta)(hv:PE X value tv)(hs:swapsWith value (some (.Attribute o f pos')) pos.line X.env=pure false):PS X (.Assign [.Attribute o f pos'] value pos) (D6 X.K ta tv f):=by
 intro b s σ H D I h;refine plainObj_wpAny_Assign_Attribute (cq (hv b s σ H _ I h) λu d ⟨y,H1,r,e,q⟩=>cq (ha b d σ H1 _ r q) λov s2 ⟨x,H2,p,g,a,C,dx,fs,j,k,c,n,l,i⟩=>?_) hs;subst j;obtain rfl:ov=Value.ref a:=g;exact v3 p k c n l e λs3 m=>⟨σ,_,m,i⟩
end
section
variable {X:Cx}{pins:KZ}{σ:St}{H:Hp}{s:K1}{A:K8}{E:KW}{Q:KW}{c:Value}{b:Bool}
inductive jq(K:KY)(H:Hp):V->Value->Prop where
 |non:jq K H .non (.type "NoneType")
 |bl (x:Bool):jq K H (.bl x) (.type "bool")
 |int (i:Int):jq K H (.int i) (.type "int")
 |str (x:Str):jq K H (.str x) (.type "str")
 |flt (x:UInt64):jq K H (.flt x) (.type "float")
 |lst {a:Addr} {xs:List V} (e:H a=some (.lst xs)):jq K H (.ref a) (.type "list")
 |frz {a:Addr} {o:Obj} {xs:List V} (e:H a=some (.frz o (.lst xs))):jq K H (.ref a) (.type "list")
 |tup {a:Addr} {xs:List V} (e:H a=some (.tup xs)):jq K H (.ref a) (.type "tuple")
 |dK {a:Addr} {kvs:List (cM×V)} (e:H a=some (.dK kvs)):jq K H (.ref a) (.type "dict")
 |dT {a:Addr} {kvs:List (List cM×V)} (e:H a=some (.dT kvs)):jq K H (.ref a) (.type "dict")
 |ins {a C dx:Addr} {fs:List (Str×V)} (e:H a=some (.ins C dx fs)) (cl:jv K C) (ha:PySem.W.findIn K (.ref C) "__class__"=some (some (.builtin "object.__class__")))
   (hn:PySem.W.specialIn K (.builtin "object.__class__") "__get__"=some (some (.builtin "getset_descriptor.__get__"))) (htk:PySem.W.takesIn K (.builtin "object.__class__")=some true)
   (hm:PySem.W.mroIn K C (.type "object")=some true):jq K H (.ref a) (.ref C)
theorem zd{x:V}{u t:Value}(I:Inv X pins σ H s)(rx:bF x u)(ty:jq X.K H x t)(e:PySem.W.kitOne X.K t c=some b)(h:∀tk,Q (.bool b) {s with toks:=tk}) :
  wpAny (model X.prog X.w) A (call (.builtin "isinstance") [u,c]) Q E s:=by
 cases ty with
 |non=>cases(show u=Value.none from rx);exact PySem.W.kia_one PySem.W.kitx_none I.kIn True.intro e (λz=>nomatch z) h
 |bl y=>cases(show u=Value.bool y from rx);exact PySem.W.kia_one PySem.W.kitx_bool I.kIn True.intro e (λz=>nomatch z) h
 |int i=>obtain⟨t,q⟩:=(show ∃t,u=Value.int i t from rx);cases q;exact PySem.W.kia_one PySem.W.kitx_int I.kIn True.intro e (λz=>nomatch z) h
 |str y=>obtain⟨t,q⟩:=(show ∃t,u=Value.str y t from rx);cases q;exact PySem.W.kia_one PySem.W.kitx_str I.kIn True.intro e (λz=>nomatch z) h
 |flt y=>obtain⟨t,q⟩:=(show ∃t,u=Value.float y t from rx);cases q;exact PySem.W.kia_one PySem.W.kitx_float I.kIn True.intro e (λz=>nomatch z) h
 | @lst a d ea=>
  cases(show u=Value.ref a from rx);obtain⟨_,_,n,_,h1⟩:=(show ce X.prog X.w H s.heap a (.lst d) from I.hok a _ ea);exact PySem.W.kia_one PySem.W.kitx_list I.kIn ⟨_,h1,rfl⟩ e (λz=>nomatch z) h
 | @frz a ob d ea=>
  cases(show u=Value.ref a from rx);obtain⟨_,_,_,n,_,h1⟩:=(show ce X.prog X.w H s.heap a (.frz ob (.lst d)) from I.hok a _ ea);exact PySem.W.kia_one PySem.W.kitx_list I.kIn ⟨_,h1,rfl⟩ e (λz=>nomatch z) h
 | @tup a d ea=>
  cases(show u=Value.ref a from rx);obtain⟨_,_,_,p⟩:=(show ce X.prog X.w H s.heap a (.tup d) from I.hok a _ ea);obtain⟨o,h1,h2,_⟩:=p;exact PySem.W.kia_one PySem.W.kitx_tuple I.kIn ⟨o,h1,h2⟩ e (λz=>nomatch z) h
 | @dK a kvs ea=>
  cases(show u=Value.ref a from rx);obtain⟨_,_,vs,_,p⟩:=(show ce X.prog X.w H s.heap a (.dK kvs) from I.hok a _ ea);obtain⟨o,g,j,h1,h2,_⟩:=p;exact PySem.W.kia_one PySem.W.kitx_dict I.kIn ⟨o,h1,h2.1⟩ e (λz=>nomatch z) h
 | @dT a kvs ea=>
  cases(show u=Value.ref a from rx);obtain⟨_,_,d,_,o,g,j,h1,h2,_⟩:=(show ce X.prog X.w H s.heap a (.dT kvs) from I.hok a _ ea);exact PySem.W.kia_one PySem.W.kitx_dict I.kIn ⟨o,h1,h2.1⟩ e (λz=>nomatch z) h
 | @ins a C dx fs ea cl ha hn htk hm=>
  cases(show u=Value.ref a from rx);obtain⟨mA,O,_⟩:=mT I.hok ea;obtain⟨od,J,_⟩:=O.look;exact PySem.W.kia_one (PySem.W.kitx_own (cl.get _) cl.hd ha hn htk hm) I.kIn J e (λz=>nomatch z) h
end
structure c3(k:Nat)(A:K8):Prop where
 hd:A.handled=none
 dp:A.depth+3*k+5<recursionLimit
 un:A.units+16*k+200<cLine
theorem c3.mono{j k:Nat}{A:K8}(r:c3 k A)(h:j<=k):c3 j A:=⟨r.hd,by have:=r.dp;omega,by have:=r.un;omega⟩
theorem c3.deeper{k:Nat}{A:K8}(r:c3 (k+1) A)(env:Env):c3 k (A.deeper env):=
 ⟨r.hd,by have:=r.dp;show A.depth+1+3*k+5<_;omega,by have:=r.un;show A.units+3+16*k+200<_;omega⟩
theorem c3.in1{k:Nat}{A:K8}(r:c3 (k+1) A):c3 k A.in1:=
 ⟨r.hd,by have:=r.dp;show A.depth+3*k+5<_;omega,by have:=r.un;show A.units+1+16*k+200<_;omega⟩
theorem vS{A:K8}{C:Addr}{us:K2}{kw:List (Str×Value)}:(A.under (.builtin "type.__call__" ⟨.ref C::us,kw⟩)).depth=A.depth+1:=by
 first | rfl | simp[Around.under,Code.weight,Code.isCreation,Code.isGuard,Code.isCaller,Code.frames,Code.isFrame,guardIds]
theorem wt{A:K8}{C:Addr}{us:K2}{kw:List (Str×Value)}:(A.under (.builtin "type.__call__" ⟨.ref C::us,kw⟩)).units=A.units+1:=by
 first | rfl | simp[Around.under,Code.cUnits,Code.frames,Code.isFrame]
theorem c3.make{k:Nat}{A:K8}(r:c3 (k+1) A)(C:Addr)(us:K2)(kw:List (Str×Value)):c3 k (A.under (.builtin "type.__call__" ⟨.ref C::us,kw⟩)):=
 ⟨r.hd,by have:=r.dp;rw[vS];omega,by have:=r.un;rw[wt];omega⟩
theorem c3.depth{k:Nat}{A:K8}(r:c3 k A):A.depth<recursionLimit:=by have:=r.dp;omega
theorem c3.units{k:Nat}{A:K8}(r:c3 k A):A.units+64<cLine:=by have:=r.un;omega
def nN:TA:=λ_ H Q=>Q [] H
def jz(ta:TE)(tr:TA):TA:=λσ H Q=>ta σ H λx H1=>tr σ H1 λxs H2=>Q (x::xs) H2
section
variable {X:Cx}{e:Expr}{es:Lb}{te:TE}{t:TA}{pos:Pos}
theorem ad:PA X [] nN:=λ_ _ _ _ H Q I h=>Calls.spliced_nil ⟨[],H,I,.nil,h⟩
theorem ac(ha:PE X e te)(hr:PA X es t)(hs:autoParam (starEach (e::es) X.env=(false,eval e X.env)::starEach es X.env) zz0._auto_1):PA X (e::es) (jz te t):=by
 intro b a s σ H Q I h;rw[hs];show wpAny _ _ (spliced ((false,eval e X.env)::backTo b (starEach es X.env))) _ _ s;refine Calls.spliced_cons (cq (ha a s σ H _ I h) λu d ⟨x,H1,m,i,k⟩=>?_);exact cq (hr b a d σ H1 _ m k) λus s2 ⟨c,H2,l,g,j⟩=>⟨x::c,H2,l,.cons i g,j⟩
def EG(t:TA):TE:=λσ H Q=>t σ H λxs H1=>xs.length<=sizeLine/\∀p,H1 p=none->Q (.ref p) (aD H1 p (.tup xs))
def Dk(t:TA):TE:=λσ H Q=>t σ H λxs H1=>xs.length<=sizeLine/\∀p,H1 p=none->Q (.ref p) (aD H1 p (.lst xs))
theorem bN{x1}(h:PA X es t):PE X (.Tuple es x1 pos) (EG t):=by
 intro a s σ H Q I hq;refine wpAny_Tuple_spliced (cq (h pos a s σ H _ I hq) λus c ⟨g,H1,d,r,z,q⟩=>⟨by rw[<- r.length];exact z,?_⟩);have i:H1 c.heap.objs.size=none:=d.hok.fresh (Kj _);refine⟨.ref c.heap.objs.size,aD H1 c.heap.objs.size (.tup g),d.laid (t':=c.toks) (λb u e=>JY _ e) (Kj _) ?_,rfl,q _ i⟩;exact⟨z,us,r,⟨_,J4 _ rfl,rfl,_,rfl⟩⟩
theorem bz(h:PA X es t):PE X (.List es pos) (Dk t):=by
 intro a s σ H Q I hq;refine wpAny_List_spliced (cq (h pos a s σ H _ I hq) λus c ⟨g,H1,d,r,z,q⟩=>⟨by rw[<- r.length];exact z,?_⟩);have i:H1 c.heap.objs.size=none:=d.hok.fresh (Kj _);refine⟨.ref c.heap.objs.size,aD H1 c.heap.objs.size (.lst g),d.laid (t':=c.toks) (λb u e=>JY _ e) (Kj _) ?_,rfl,q _ i⟩;exact⟨z,us,0,r,J4 _ rfl⟩
end
abbrev Sp:=List V->Hp->VK->XK->Prop
abbrev j4:=List Env->Hp->Shared->XK->Value->Shared->Prop
structure oh(P:K6)(w:K9)(K:KY)(mg:K4)(base:Heap)(A:K8)(outer:List Env)(s:K1)(H:Hp):Prop where
 frames:A.frames=some outer
 mod:Mod K mg base
 bs:∀b o,base.get? b=some o->s.heap.get? b=some o/\H b=none
 bsz:base.objs.size<=s.heap.objs.size
 funs:s.heap.FunFrames base outer
 frf:∀b∈vj outer,H b=none
 hok:jf P w H s.heap
 bare:AllBare s.gens
def CE(outer:List Env)(P:K6)(w:K9)(H:Hp)(s:K1)(Q:VK)(u:Value)(s':K1):Prop:=
 ∃v H',s'.os=s.os/\AllBare s'.gens/\Un (vj outer) [] H H' s.heap s'.heap/\jf P w H' s'.heap/\bF v u/\Q v H'
def CR(CX:j4)(outer:List Env)(P:K6)(w:K9)(H:Hp)(s:K1)(Q:VK)(E:XK)(r:Result)(s':K1):Prop:=
 match r with
 | .ok (.ret u)=>CE outer P w H s Q u s'
 | .ok _=>False
 | .error e=>CX outer H s E e s'
structure br(P:K6)(w:K9)(K:KY)(mg:K4)(base:Heap)(CX:j4)(k:Nat)(f:Addr)(fd:K5)(ps:K7)(sp:Sp):Prop where
 len:∀vs H Q E,sp vs H Q E->vs.length=ps.length
 run:∀(A:K8) (outer:List Env) (s:K1) (H:Hp) (args:Args) (us:K2) (vs:List V) (Q:VK) (E:XK),c3 k A->oh P w K mg base A outer s H->BindsTo s fd args (ps.zip us)->bp vs us->sp vs H Q E ->
  codeAny (model P w) A (.call (.ref f) args) (CR CX outer P w H s Q E) s
theorem br.mono{P:K6}{w:K9}{K:KY}{mg:K4}{base:Heap}{CX:j4}{j k:Nat}{f:Addr}{fd:K5}{ps:K7}{sp:Sp}(F:br P w K mg base CX j f fd ps sp)(h:j<=k) :
  br P w K mg base CX k f fd ps sp:=⟨F.len,λA outer s H args us vs Q E hr=>F.run A outer s H args us vs Q E (hr.mono h)⟩
theorem oh.make{P:K6}{w:K9}{K:KY}{mg:K4}{base:Heap}{A:K8}{outer:List Env}{s:K1}{H:Hp}(e:oh P w K mg base A outer s H)(C:Addr)(us:K2)(kw:List (Str×Value)) :
  oh P w K mg base (A.under (.builtin "type.__call__" ⟨.ref C::us,kw⟩)) outer s H:=⟨by first | exact e.frames | (simpa[Around.under,Code.envs,Code.isFrame,pushEnvs]using e.frames),e.mod,e.bs,e.bsz,e.funs,e.frf,e.hok,e.bare⟩
theorem oh.in1{P:K6}{w:K9}{K:KY}{mg:K4}{base:Heap}{A:K8}{outer:List Env}{s:K1}{H:Hp}(e:oh P w K mg base A outer s H) :
  oh P w K mg base A.in1 outer s H:=⟨e.frames,e.mod,e.bs,e.bsz,e.funs,e.frf,e.hok,e.bare⟩
section
variable {X:Cx}{pins:KZ}{σ:St}{H:Hp}{s s':K1}
theorem Inv.env0(I:Inv X pins σ H s):oh X.prog X.w X.K X.mg X.base X.A X.stack s H:=
 ⟨I.ok.frames,I.ok.mod,I.bs,Ks I.ok.bsz I.sz,I.stack,I.stkFree,I.hok,I.bare⟩
theorem Inv.after{Q:VK}{u:Value}(I:Inv X pins σ H s)(h:CE X.stack X.prog X.w H s Q u s'):EP X pins σ Q u s':=by
 obtain⟨v,j,os,a,un,e,r,q⟩:=h;obtain⟨i,g,d,t,c⟩:=s';obtain rfl:c=s.os:=os;exact⟨v,j,I.call (h':=i) (g':=g) (d':=d) (t':=t) (ch:=[]) un e a (λb z=>q0Q z (by simp)),r,q⟩
end
def lV(sp:Sp)(dvs:List V)(E:XK)(t:TA):TE:=λσ H Q=>t σ H λvs H1=>sp (vs++dvs) H1 Q E
def pU(C:Addr)(m:Str)(sp:Sp)(dvs:List V)(E:XK)(ta:TE)(t:TA):TE:=λσ H Q=>ta σ H λx H1=>∃a dx fs,x=.ref a/\H1 a=some (.ins C dx fs)/\fs.lookup m=none /\
 t σ H1 λvs H2=>sp (x::(vs++dvs)) H2 Q E
def xF(C:Addr)(sp:Sp)(dvs:List V)(E:XK)(t:TA):TE:=λσ H Q=>t σ H λvs H1=>∀x dx,H1 x=none->H1 dx=none->dx≠x ->
 sp (.ref x::(vs++dvs)) (aD (aD H1 dx (.own x)) x (.ins C dx [])) (λv H2=>v=.non/\Q (.ref x) H2) E
def dL(K:KY)(fd:K5)(ps:K7)(ds:K2):Prop:=
 ∀(s:K1) (us:K2),K.In s.heap->(us++ds).length=ps.length->BindsTo s fd ⟨us,[]⟩ (ps.zip (us++ds))
theorem dL.all{K:KY}{fd:K5}{ps:K7}(h:∀us:List Value,us.length=ps.length->bindArgs fd ⟨us,[]⟩=pure (ps.zip us)):dL K fd ps []:=λs us _ hl=>by
 rw[Kv]at hl ⊢;exact .of_eq (h us hl)
def dy(CX:j4)(X:Cx)(E:XK):Prop:=∀(pins:KZ) (σ:St) (H:Hp) (s:K1) (e:Value) (s':K1),Inv X pins σ H s->CX X.stack H s E e s'->X.xe e s'
section
variable {X:Cx}{CX:j4}{k:Nat}{f C:Addr}{fd:K5}{ps:K7}{sp:Sp}{dvs:List V}{ds:K2}{E:XK}{x m:Str}{p pos apos:Pos}{e o:Expr}{es:Lb}{ta:TE}{t:TA}
theorem kP{pins:KZ}{σ:St}{H:Hp}{s:K1}{Q:VK}{us:K2}{vs:List V}(F:br X.prog X.w X.K X.mg X.base CX k f fd ps sp)(hr:c3 k X.A)(hb:dL X.K fd ps ds)(hd:bp dvs ds)(hx:dy CX X E)
  (I:Inv X pins σ H s) (r:bp vs us) (h:sp (vs++dvs) H Q E):wpAny (model X.prog X.w) X.A (call (.ref f) us) (EP X pins σ Q) X.xe s:=by
 have b:bp (vs++dvs) (us++ds):=r.append hd;have d:(us++ds).length=ps.length:=by rw[<- b.length];exact F.len _ _ _ _ h
 refine wpAny_call (codeAny_mono (F.run X.A X.stack s H ⟨us,[]⟩ (us++ds) (vs++dvs) Q E hr I.env0 (hb s us I.kIn d) b h) λr c a=>?_);cases r with
 |error e=>exact hx pins σ H s e c I a
 |ok fl=>
  cases fl with
  |ret u=>exact I.after a
  |next=>exact False.elim a
  |brk=>exact False.elim a
  |cont=>exact False.elim a
theorem B5(F:br X.prog X.w X.K X.mg X.base CX k f fd ps sp)(hr:c3 k X.A)(hg:Gl X x)(hm:X.mg x=some (.ref f))(hk:PySem.W.keepIn X.K (.ref f)=true)(hb:dL X.K fd ps ds)(hd:bp dvs ds)(hx:dy CX X E)
  (ha:PA X (e::es) t) (hdb:autoParam ((x==("__debug__":Str))=false) zz1._auto_1) (he:autoParam (starEach (e::es) X.env=(false,eval e X.env)::starEach es X.env) zz0._auto_1) (hpl:autoParam ((backTo pos (starEach es X.env)).any (·.1)=false) zz0._auto_1) :
  PE X (.Call (.Name x p) (e::es) [] pos) (lV sp dvs E t):=by
 intro a s σ H Q I h;refine wpAny_Call_Name_kw (mQ I hg hm ?_ hdb);refine PySem.W.callWith_K (h₀:=X.base) I.ok.mod.kin hk (cq (ha pos a s σ H _ I h) λus s1 ⟨vs,H1,b,r,q⟩=>⟨b.kIn,?_⟩) he hpl;exact kP F hr hb hd hx b r q
theorem Cb{pl:Sem Bool}(he:PE X o ta)(c:jv X.K C)(hm:iP X.K C m f)(F:br X.prog X.w X.K X.mg X.base CX k f fd ps sp)(hr:c3 k X.A)(hb:dL X.K fd ps ds)(hd:bp dvs ds)(hx:dy CX X E)(ha:PA X (e::es) t)
  (hst:autoParam (starEach (e::es) X.env=(false,eval e X.env)::starEach es X.env) zz0._auto_1) (hpl:autoParam ((backTo pos (starEach es X.env)).any (·.1)=false) zz0._auto_1)
  (ht:autoParam (eval (.Call (.Attribute o m apos) (e::es) [] pos) X.env=(do
   let ov <- eval o X.env
   standAt apos.atName
   let (f,first) <- holding [ov] (getMethod ov m pl)
   callWith pos f first (backTo pos (starEach (e::es) X.env)) (backToKw pos (keywordEach [] X.env)))) zz0._auto_1) :
  PE X (.Call (.Attribute o m apos) (e::es) [] pos) (pU C m sp dvs E ta t):=by
 intro b s σ H Q I h;refine PySem.W.methodCall_KW (pl:=pl) (cq (he b s σ H _ I h) λu i ⟨x,H1,g,j,a,dx,fs,p,v,l,q⟩=>?_) ht;subst p;obtain rfl:u=Value.ref a:=j;refine fw g v c hm l ?_;refine PySem.W.callWith_K (first:=[.ref a]) (h₀:=X.base) I.ok.mod.kin hm.kp (cq (ha pos b i σ H1 _ g q) λus s2 ⟨vs,H2,d,r,n⟩=>⟨d.kIn,?_⟩) hst hpl;exact kP (us:=.ref a::us) (vs:=.ref a::vs) F hr hb hd hx d (.cons rfl r) n
theorem Bw{pl:Sem Bool}(he:PE X o ta)(c:jv X.K C)(hm:iP X.K C m f)(F:br X.prog X.w X.K X.mg X.base CX k f fd ps sp)(hr:c3 k X.A)(hb:dL X.K fd ps ds)(hd:bp dvs ds)(hx:dy CX X E)
  (ht:autoParam (eval (.Call (.Attribute o m apos) [] [] pos) X.env=(do
   let ov <- eval o X.env
   standAt apos.atName
   let (f,first) <- holding [ov] (getMethod ov m pl)
   callWith pos f first (backTo pos (starEach [] X.env)) (backToKw pos (keywordEach [] X.env)))) zz0._auto_1) :
  PE X (.Call (.Attribute o m apos) [] [] pos) (pU C m sp dvs E ta nN):=by
 intro b s σ H Q I h;refine PySem.W.methodCall_KW (pl:=pl) (cq (he b s σ H _ I h) λu s1 ⟨x,H1,d,e,a,dx,fs,g,i,l,q⟩=>?_) ht;subst g;obtain rfl:u=Value.ref a:=e;refine fw d i c hm l ?_;exact PySem.W.callWith_K0 (first:=[.ref a]) d.kIn hm.kp (kP (us:=[.ref a]) (vs:=[.ref a]) F hr hb hd hx d (.cons rfl .nil) q)
structure Mk(K:KY)(C f:Addr):Prop where
 makes:PySem.W.makesIn K C=true
 init:PySem.W.findIn K (.ref C) "__init__"=some (some (.ref f))
 fn:PySem.W.isFn K (.ref f)=true
 kp:PySem.W.keepIn K (.ref C)=true
theorem Ah{pins:KZ}{σ:St}{H:Hp}{s:K1}{Q:VK}{us:K2}{vs:List V}(M:Mk X.K C f)(F:br X.prog X.w X.K X.mg X.base CX k f fd ps sp)(hr:c3 (k+1) X.A)(hb:dL X.K fd ps ds)(hd:bp dvs ds)
  (hx:dy CX X E) (I:Inv X pins σ H s) (r:bp vs us)
  (h:∀x dx,H x=none->H dx=none->dx≠x->sp (.ref x::(vs++dvs)) (aD (aD H dx (.own x)) x (.ins C dx [])) (λv H2=>v=.non/\Q (.ref x) H2) E) :
  wpAny (model X.prog X.w) X.A (call (.ref C) us) (EP X pins σ Q) X.xe s:=by
 have d:=h (s.heap.objs.size+1) s.heap.objs.size (I.hok.fresh (Nat.le_succ _)) (I.hok.fresh (Kj _)) (Kf (Ku _));have b:=Inv.made (C:=C) I;have c:bp (V.ref (s.heap.objs.size+1)::(vs++dvs)) (Value.ref (s.heap.objs.size+1)::(us++ds)):=.cons rfl (r.append hd);have l:(Value.ref (s.heap.objs.size+1)::us++ds).length=ps.length:=by
  have e:=c.length;rw[F.len _ _ _ _ d]at e;exact e.symm
 refine wpAny_call (Ab (f:=f) I.kIn M.makes M.init (beq_iff_eq.mp M.fn) (codeAny_mono (F.run _ X.stack _ _ ⟨Value.ref (s.heap.objs.size+1)::us,[]⟩ (Value.ref (s.heap.objs.size+1)::(us++ds)) _ _ E (hr.make C us [])
  (b.env0.make C us []) (hb _ (Value.ref (s.heap.objs.size+1)::us) b.kIn l) c d) λr g a=>?_))
 cases r with
 |error e=>exact hx pins σ _ _ e g b a
 |ok fl=>
  cases fl with
  |ret u=>
   obtain⟨v,o,n,i,m,j⟩:=b.after a;subst m;exact⟨i,⟨V.ref (s.heap.objs.size+1),o,n,rfl,j⟩⟩
  |next=>exact False.elim a
  |brk=>exact False.elim a
  |cont=>exact False.elim a
theorem Di(M:Mk X.K C f)(F:br X.prog X.w X.K X.mg X.base CX k f fd ps sp)(hr:c3 (k+1) X.A)(hg:Gl X x)(hm:X.mg x=some (.ref C))(hb:dL X.K fd ps ds)(hd:bp dvs ds)(hx:dy CX X E)
  (ha:PA X (e::es) t) (hdb:autoParam ((x==("__debug__":Str))=false) zz1._auto_1) (he:autoParam (starEach (e::es) X.env=(false,eval e X.env)::starEach es X.env) zz0._auto_1) (hpl:autoParam ((backTo pos (starEach es X.env)).any (·.1)=false) zz0._auto_1) :
  PE X (.Call (.Name x p) (e::es) [] pos) (xF C sp dvs E t):=by
 intro a s σ H Q I h;refine wpAny_Call_Name_kw (mQ I hg hm ?_ hdb);refine PySem.W.callWith_K (h₀:=X.base) I.ok.mod.kin M.kp (cq (ha pos a s σ H _ I h) λus s1 ⟨vs,H1,b,r,q⟩=>⟨b.kIn,?_⟩) he hpl;exact Ah M F hr hb hd hx b r q
end
def PK(X:Cx)(kws:List Keyword)(t:TA):Prop:=
 ∀(pos:Pos) (pins:KZ) (s:K1) (σ:St) (H:Hp) (Q:List V->Hp->Prop),Inv X pins σ H s->t σ H Q->wpAny (model X.prog X.w) X.A (evalAll ((backToKw pos (keywordEach kws X.env)).map (·.2))) (AP X pins σ Q) X.xe s
section
variable {X:Cx}{CX:j4}{k:Nat}{f C:Addr}{fd:K5}{ps ks:K7}{sp:Sp}{E:XK}{x m:Str}{p pos apos kpos:Pos}{e o:Expr}{es:Lb}{kws:List Keyword}{te ta:TE}{t tk:TA}{nm:Option Str}
theorem ET:PK X [] nN:=λ_ _ _ _ H Q I h=>wpAny_evalAll_nil ⟨[],H,I,.nil,h⟩
theorem CY(ha:PE X e te)(hr:PK X kws t):PK X (⟨nm,e,kpos⟩::kws) (jz te t):=by
 intro b a s σ H Q I h;show wpAny _ _ (evalAll ((do let v <- eval e X.env;standAt b;pure v)::(backToKw b (keywordEach kws X.env)).map (·.2))) _ _ s;refine wpAny_evalAll_cons (q04 (cq (ha a s σ H _ I h) λu d ⟨x,H1,m,i,k⟩=>q04 (wpAny_standAt (q05 ?_))));exact cq (hr b a d σ H1 _ m k) λus s2 ⟨c,H2,l,g,j⟩=>⟨x::c,H2,l,.cons i g,j⟩
variable {g:List Value->List Value->List Value}{gV:List V->List V->List V}
end
structure aE(N P:K7)(sc:Scope):Prop where
 kind:sc.kind=.function
 co:sc.isCoroutine=false
 gen:sc.isGenerator=false
 nd:N.Nodup
 pre:N.take P.length=P
 par:∀x∈P,sc.names.lookup x=some .local\/sc.names.lookup x=some .cell
 nofree:∀y∈sc.names,y.2≠.free
theorem p_{kindOf:Str->Option NameKind}{x:Str}:∀{binds:List (Str×Value)} {m:K4},(∀v,(x,v)∉binds)->bindL kindOf binds m x=m x
 | [],_,_=>rfl
 | (n,v)::r,m,h=>by
  unfold bindL;rw[p_ λw hw=>h w (Kc _ hw)]
  split
  ·have:x≠n:=by rintro rfl;exact h v q0B
   simp[this]
  ·rfl
theorem qx{kindOf:Str->Option NameKind}{x:Str}:∀{binds:List (Str×Value)} {m:K4},(∀v,(x,v)∉binds)->bindC kindOf binds m x=m x
 | [],_,_=>rfl
 | (n,v)::r,m,h=>by
  unfold bindC;rw[qx λw hw=>h w (Kc _ hw)]
  split
  ·rfl
  ·have:x≠n:=by rintro rfl;exact h v q0B
   simp[this]
theorem qA{kindOf:Str->Option NameKind}{x:Str}{v:Value}:∀{P:K7} {vs:K2} {i:Nat} {m:K4},P.Nodup->P[i]?=some x->vs[i]?=some v->kindOf x=some .local ->
  bindL kindOf (P.zip vs) m x=some v
 | [],_,_,_,_,h,_,_=>by simp at h
 |_::_,[],_,_,_,_,h,_=>by simp at h
 |p::P,w::vs,0,m,nd,h1,h2,hk=>by
  simp at h1 h2;subst h1;subst h2
  show bindL kindOf ((p,w)::P.zip vs) m p=_;unfold bindL;rw[p_ λv hv=>(List.nodup_cons.mp nd).1 (List.of_mem_zip hv).1,q07 hk];simp
 |p::P,w::vs,i+1,m,nd,h1,h2,hk=>by
  show bindL kindOf ((p,w)::P.zip vs) m x=_;unfold bindL;exact qA (i:=i) (List.nodup_cons.mp nd).2 (by simpa using h1) (by simpa using h2) hk
theorem pW{kindOf:Str->Option NameKind}{x:Str}{v:Value}:∀{P:K7} {vs:K2} {i:Nat} {m:K4},P.Nodup->P[i]?=some x->vs[i]?=some v->kindOf x≠some .local ->
  bindC kindOf (P.zip vs) m x=some v
 | [],_,_,_,_,h,_,_=>by simp at h
 |_::_,[],_,_,_,_,h,_=>by simp at h
 |p::P,w::vs,0,m,nd,h1,h2,hk=>by
  simp at h1 h2;subst h1;subst h2
  show bindC kindOf ((p,w)::P.zip vs) m p=_;unfold bindC;rw[qx λv hv=>(List.nodup_cons.mp nd).1 (List.of_mem_zip hv).1,q06 hk];simp
 |p::P,w::vs,i+1,m,nd,h1,h2,hk=>by
  show bindC kindOf ((p,w)::P.zip vs) m x=_;unfold bindC;exact pW (i:=i) (List.nodup_cons.mp nd).2 (by simpa using h1) (by simpa using h2) hk
def start(N:K7)(vs:List V):St:=vs.map some++List.replicate (N.length-vs.length) none
def tO(CX:j4)(P:K6)(w:K9)(K:KY)(mg:K4)(base:Heap)(N:K7)(qual:Str)(scope:Scope)(f:Addr)(cd:Value)(A:K8)(outer:List Env)(s:K1)(H:Hp)(E:XK):Cx where
 prog:=P
 w:=w
 K:=K
 mg:=mg
 base:=base
 A:=A.deeper (envOfC qual scope s.heap.objs.size f cd)
 N:=N
 s₀:=s
 H₀:=H
 env:=envOfC qual scope s.heap.objs.size f cd
 outer:=outer
 stack:=envOfC qual scope s.heap.objs.size f cd::outer
 ex:=[]
 calm:=true
 fn:=λ_=>true
 pn:=[]
 xe:=λe s'=>wpAny (model P w) (A.deeper (envOfC qual scope s.heap.objs.size f cd)) (leaving (envOfC qual scope s.heap.objs.size f cd) e) (λ_ s''=>CX outer H s E e s'') (λe' s''=>CX outer H s E e' s'') s'
theorem uF{sc:Scope}{n:Nat}{x:Str}(h:sc.names.lookup x=some .cell):∃c,(cellsFrom n sc.names []).lookup x=some c:=by
 have q:=PySem.W.cellsFrom_some sc.names n [] (.inl h);exact Option.isSome_iff_exists.mp q
theorem yN{CX:j4}{P:K6}{w:K9}{K:KY}{mg:K4}{base:Heap}{N ps:K7}{qual:Str}{scope:Scope}{f:Addr}{cd:Value}{A:K8}{outer:List Env}{s s1:K1}{H:Hp}{E:XK}{us:K2}{vs:List V}
  (S:aE N ps scope) (hd:A.handled=none) (e0:oh P w K mg base A outer s H) (hl:vs.length=ps.length) (r:bp vs us)
  (x:InCallC s s.heap.objs.size (bindL (envOfC qual scope s.heap.objs.size f cd).kindOf (ps.zip us) λ_=>none) (cellsFrom (s.heap.objs.size+1) scope.names []) (bindC (envOfC qual scope s.heap.objs.size f cd).kindOf (ps.zip us) λ_=>none) s1) :
  Inv (tO CX P w K mg base N qual scope f cd A outer s H E) [] (start N vs) H s1:=by
 have hpl:ps.length<=N.length:=by have:=q0R List.length S.pre;rw[KA]at this;omega
 obtain⟨h1,tk,rfl,o⟩:=x.done;have d:∀b:Addr,b∉(tO CX P w K mg base N qual scope f cd A outer s H E).ex:=λb z=>q0Q (show b∈([]:List Addr) from z) (by simp);refine⟨⟨e0.mod,S.kind,rfl,rfl,Kj _,λy z c h1 h2=>?_,λy hy=>?_,λy c _ h=>?_,λ_=>hd,Around.frames_deeper e0.frames,.inr ⟨rfl,rfl⟩,λb z=>q0Q z (d b),e0.bs,e0.bsz,λb _ _=>d b,λb z=>q0Q z (d b),e0.funs,e0.frf⟩,
  rfl,e0.bare,Un.kept o,⟨_,x.toInCall.ns,λi y v h1 h2 h3=>?_⟩,λy c h=>⟨_,x.cell y c h⟩,e0.hok.fresh (Kj _),λy c h=>?_,λp j=>q0Q (show p∈([]:List (Addr×Obj)) from j) (by simp),e0.hok.kept o,?_⟩
 ·exact name_of_addr x.apart (PySem.mem_of_lookup h1) (PySem.mem_of_lookup h2)
 ·have hy:scope.names.lookup y=some .cell\/scope.names.lookup y=some .free:=hy
  rcases hy with hy | hy
  ·exact uF hy
  ·exact q0Q rfl (S.nofree _ (PySem.mem_of_lookup hy))
 ·exact q0P (x.above y c (PySem.mem_of_lookup h))
 ·have l:i<vs.length:=by
   unfold start at h2
   by_cases l:i<vs.length
   ·exact l
   ·rw[Kg (by simpa using l)]at h2
    rw[List.getElem?_replicate]at h2
    split at h2<;>cases h2
  have C:vs[i]?=some v:=by
   unfold start at h2;rw[Kh (by simpa using l),J1]at h2;cases e:vs[i]? with
   |none=>rw[e]at h2;cases h2
   |some a=>rw[e]at h2;cases h2;rfl
  obtain⟨u,m,B⟩:=r.get C;have j:ps[i]?=some y:=by
   rw[<- S.pre,List.getElem?_take_of_lt ⋯];exact h1
  have g:ps.Nodup:=by rw[<- S.pre];exact S.nd.sublist (List.take_sublist _ _)
  refine⟨u,B,?_⟩;rcases S.par y (J2 j) with k | k
  ·exact .inl ⟨k,qA g j m k⟩
  ·obtain⟨c,e⟩:=uF (n:=s.heap.objs.size+1) k
   refine .inr ⟨.inl k,c,e,?_⟩;have q:=x.cell y c e;rw[pW g j m (by show scope.names.lookup y≠_;rw[k];decide)]at q;exact q
 ·exact e0.hok.fresh (q0P (x.above y c (PySem.mem_of_lookup h)))
 ·unfold start
  show _=N.length;rw[Ki,JZ,List.length_replicate];omega
theorem Fi{CX:j4}{P:K6}{w:K9}{K:KY}{mg:K4}{base:Heap}{k:Nat}{f:Addr}{name qual:Str}{params:Arguments}{body:List Stmt}{scope:Scope}{dV kV doc pm cdv ct oc:Value}{an od:La}
  {osl:Array (Option Value)} {N ps:K7} {sp:Sp} (lk:K.lookup f=some ⟨oc,od,.func (PySem.W.fnOf name qual params body scope dV kV doc pm an cdv ct),osl⟩) (hcd:PySem.W.codeIn K cdv qual=true) (S:aE N ps scope)
  (len:∀vs H Q E,sp vs H Q E->vs.length=ps.length)
  (hbody:∀(A:K8) (outer:List Env) (s:K1) (H:Hp) (vs:List V) (Q:VK) (E:XK),c3 k (A.deeper (envOfC qual scope s.heap.objs.size f cdv))->sp vs H Q E ->
   ∃t,wJ (tO CX P w K mg base N qual scope f cdv A outer s H E) body t/\t {nx:=λ_ H'=>Q .non H',rt:=Q} (start N vs) H) :
  br P w K mg base CX (k+1) f (PySem.W.fnOf name qual params body scope dV kV doc pm an cdv ct) ps sp:=by
 refine⟨len,λA outer s H args z vs Q E hr g M r d=>?_⟩;have G:=len _ _ _ _ d;have p:K.In s.heap:=g.mod.kin.keeps λb o e=>(g.bs b o e).1;have l:s.heap.NoLimit:=g.mod.nolimit.keeps λb o e=>(g.bs b o e).1;have a:∀y∈ps.zip z,scope.names.lookup y.1=some .local\/(scope.names.lookup y.1=some .cell/\((cellsFrom (s.heap.objs.size+1) scope.names []).lookup y.1).isSome=true):=λ⟨n,v⟩ B=>by
  rcases S.par n (List.of_mem_zip B).1 with q | q
  ·exact .inl q
  ·exact .inr ⟨q,PySem.W.cellsFrom_some _ _ _ (.inl q)⟩
 refine codeAny_call_function hr.depth (p _ _ lk) rfl S.co S.gen rfl (PySem.W.codeRec_of p hcd) (M _ _ _ _ ?_);refine wpAny_newFunctionEnv_cells S.kind a λenv L m x=>?_;subst L;refine⟨l.keeps x.toInCall.keep,codeAny_func ?_⟩;obtain⟨t,C,D⟩:=hbody A outer s H vs Q E (hr.deeper _) d;have I:Inv (tO CX P w K mg base N qual scope f cdv A outer s H E) [] (start N vs) H m:=yN S hr.hd g G r x;refine q0X (C [] m (start N vs) H _ I D) (λO i c=>?_) λe i c=>c;have fin:∀{σ':St} {H':Hp} {v:V} {u:Value},Inv (tO CX P w K mg base N qual scope f cdv A outer s H E) [] σ' H' i->bF v u->Q v H'->CE outer P w H s Q u i:=
  fun{σ' H' v u} J j q=>⟨v,H',J.os,J.bare,J.base,J.hok,j,q⟩
 cases O with
 |ret u=>
  obtain⟨v,σ',H',J,j,q⟩:=c;exact fin J j q
 |next=>
  obtain⟨σ',H',J,q⟩:=c;exact fin (v:=V.non) (u:=Value.none) J rfl q
 |brk=>
  obtain⟨_,_,_,q⟩:=c;exact False.elim q
 |cont=>
  obtain⟨_,_,_,q⟩:=c;exact False.elim q
section
variable {X:Cx}{x:Str}{p pos:Pos}{e:Expr}{es:Lb}{t:TA}{id T:String}{r:List V->Hp->VK->Prop}
def Ga(r:List V->Hp->VK->Prop)(t:TA):TE:=λσ H Q=>t σ H λvs H1=>r vs H1 Q
theorem aA(hc:eQ X (.builtin id) r)(hg:Gl X x)(hm:X.mg x=none)(hv:bootBuiltins x=some (.builtin id))(ha:PA X (e::es) t)(hn:autoParam (x≠"__name__") zz1._auto_1)(hdb:autoParam ((x==("__debug__":Str))=false) zz1._auto_1)
  (he:autoParam (starEach (e::es) X.env=(false,eval e X.env)::starEach es X.env) zz0._auto_1) (hpl:autoParam ((backTo pos (starEach es X.env)).any (·.1)=false) zz0._auto_1):PE X (.Call (.Name x p) (e::es) [] pos) (Ga r t):=by
 intro a s σ H Q I h;refine wpAny_Call_Name_kw (eG I hg hm hv ?_ hn hdb);exact PyProof.Rows.callWith_builtin1 (cq (ha pos a s σ H _ I h) λus b ⟨vs,H1,g,c,d⟩=>hc a b σ H1 vs us Q g c d) he hpl
theorem cU(hc:eQ X (.type T) r)(hg:Gl X x)(hm:X.mg x=none)(hv:bootBuiltins x=some (.type T))(ha:PA X (e::es) t)(hn:autoParam (x≠"__name__") zz1._auto_1)(hdb:autoParam ((x==("__debug__":Str))=false) zz1._auto_1)
  (he:autoParam (starEach (e::es) X.env=(false,eval e X.env)::starEach es X.env) zz0._auto_1) (hpl:autoParam ((backTo pos (starEach es X.env)).any (·.1)=false) zz0._auto_1):PE X (.Call (.Name x p) (e::es) [] pos) (Ga r t):=by
 intro a s σ H Q I h;refine wpAny_Call_Name_kw (eG I hg hm hv ?_ hn hdb);exact PyProof.Rows.callWith_type1 (cq (ha pos a s σ H _ I h) λus b ⟨vs,H1,g,c,d⟩=>hc a b σ H1 vs us Q g c d) he hpl
end
end L2
namespace HT
open PySem PyProof.Rows
section
variable {prog:K6}{w:K9}{A:K8}{E:KW}{s:K1}
def sIx(n d:Nat):Option Int->Nat
 |none=>d
 |some v=>if v<0 then(v+(n:Int)).toNat else min v.toNat n
theorem sIx_none(n d:Nat):sIx n d none=d:=rfl
theorem sIx_nat(n d k:Nat):sIx n d (some (k:Int))=min k n:=by
 show(if(k:Int)<0 then((k:Int)+(n:Int)).toNat else min (k:Int).toNat n)=min k n;rw[q06 ⋯,J7]
theorem sIx_le(n d:Nat)(hd:d<=n)(o:Option Int):sIx n d o<=n:=by
 cases o with
 |none=>exact hd
 |some v=>
  show(if v<0 then(v+(n:Int)).toNat else min v.toNat n)<=n
  by_cases a:v<0
  ·rw[q07 a];omega
  ·rw[q06 a];exact Nat.min_le_right _ _
end
end HT
namespace L2
open PySem PySem.Spec PyProof.Rows
abbrev TO:=St->Hp->(Option Int->Hp->Prop)->Prop
def PO(X:Cx)(e:Option Expr)(t:TO):Prop:=
 ∀(pins:KZ) (s:K1) (σ:St) (H:Hp) (Q:Option Int->Hp->Prop),Inv X pins σ H s->t σ H Q ->
  wpAny (model X.prog X.w) X.A (evalPart e X.env) (λu s'=>∃o H',Inv X pins σ H' s'/\IsPart u o/\Q o H') X.xe s
def qW:TO:=λ_ H Q=>Q none H
def A0(t:TE):TO:=λσ H Q=>t σ H λx H1=>∃i,x=.int i/\Q (some i) H1
section
variable {X:Cx}{e:Expr}{te:TE}{lo hi:Option Expr}{tl th:TO}{pos p2:Pos}
theorem d_:PO X none qW:=by
 intro pins s σ H Q I h;rw[evalPart_none];exact q05 ⟨none,H,I,.none,h⟩
theorem cE(h:PE X e te):PO X (some e) (A0 te):=by
 intro a s σ H Q I hw;rw[evalPart_some];refine cq (h a s σ H _ I hw) λu s1 ⟨x,H1,d,b,c⟩=>?_;obtain⟨i,rfl,q⟩:=c;obtain⟨t,rfl⟩:=b;exact⟨some i,H1,d,.int i t,q⟩
def GL(X:Cx)(r:V->Option Int->Option Int->Hp->VK->Prop):Prop:=
 ∀(pins:KZ) (s:K1) (σ:St) (H:Hp) (x:V) (v vl vu:Value) (lo hi:Option Int) (sl:Addr) (Q:VK),Inv X pins σ H s->bF x v->s.heap.IsSliceOf sl vl vu .none->IsPart vl lo->IsPart vu hi->r x lo hi H Q ->
  ∃T id,typeLookup (.type T) "__getitem__"=pure (some (.builtin id))/\s.TypeIs v T/\wpAny (model X.prog X.w) X.A (getItem v (.ref sl)) (EP X pins σ Q) X.xe s
def Gp(r:V->Option Int->Option Int->Hp->VK->Prop)(te:TE)(tl th:TO):TE:=λσ H Q=>te σ H λx H1=>tl σ H1 λl H2=>th σ H2 λu H3=>r x l u H3 Q
theorem cH{r:V->Option Int->Option Int->Hp->VK->Prop}(hr:GL X r)(he:PE X e te)(hl:PO X lo tl)(hu:PO X hi th):PE X (.Subscript e (.Slice lo hi none p2) pos) (Gp r te tl th):=by
 intro a s σ H Q I h;refine Subscript_ (cq (he a s σ H _ I h) λv i ⟨x,H1,J,j,n⟩=>?_);refine wpAny_Slice (cq (hl a i σ H1 _ J n) λvl g ⟨l,H2,G,p,m⟩=>cq (hu a g σ H2 _ G m) λvu c ⟨u,d,D,o,k⟩=>?_);rw[evalPart_none];refine q05 ?_;have C:Inv X a σ d {c with heap:=c.heap.push {cls:=.type "slice",data:=.fields #[vl,vu,.none]} }:=D.kept (t':=c.toks) λb ob q=>JY _ q;obtain⟨T,id,B,y,z⟩:=hr a {c with heap:=c.heap.push {cls:=.type "slice",data:=.fields #[vl,vu,.none]} } σ d x v vl vu l u c.heap.objs.size Q C j (Heap.IsSliceOf.new ..) p o k;show wpAny (model X.prog X.w) X.A (subscriptTail e (.Slice lo hi none p2) v (.ref c.heap.objs.size)) (EP X a σ Q) X.xe {c with heap:=c.heap.push {cls:=.type "slice",data:=.fields #[vl,vu,.none]} };exact tail_any (ops:=[.ref c.heap.objs.size,v]) y B z (by with_unfolding_all rfl)
def gS(xs:List V)(lo hi:Option Int):List V:=(xs.drop (HT.sIx xs.length 0 lo)).take (HT.sIx xs.length xs.length hi-HT.sIx xs.length 0 lo)
theorem uS(xs:List V)(lo hi:Option Int):(gS xs lo hi).length<=xs.length:=by
 unfold gS;rw[KA,KC];omega
end
def DQ(n:Nat)(i:Int):Option Nat:=if 0<=i then(if i<n then some i.toNat else none) else if -(n:Int)<=i then some (i+n).toNat else none
def iC{α:Type}(xs:List α)(i:Int):Option α:=(DQ xs.length i).bind λj=>xs[j]?
theorem xp{n:Nat}{i:Int}{j:Nat}(h:DQ n i=some j):seqIndex? i n=some j/\j<n/\-(n:Int)<=i/\i<n:=by
 unfold DQ at h
 by_cases a:0<=i
 ·rw[q07 a]at h
  by_cases h1:i<n
  ·rw[q07 h1]at h
   have e:i.toNat=j:=q0S h;exact⟨by rw[seqIndex_of a h1,e],⋯,⋯,h1⟩
  ·rw[q06 h1]at h;cases h
 ·rw[q06 a]at h
  by_cases h1:-(n:Int)<=i
  ·rw[q07 h1]at h
   have e:(i+n).toNat=j:=q0S h;exact⟨by rw[seqIndex_neg ⋯ h1,e],⋯,h1,⋯⟩
  ·rw[q06 h1]at h;cases h
theorem rX{α:Type}{xs:List α}{i:Int}{v:α}(h:iC xs i=some v):∃j,seqIndex? i xs.length=some j/\xs[j]?=some v/\j<xs.length/\-(xs.length:Int)<=i/\i<xs.length:=by
 unfold iC at h;cases e:DQ xs.length i with
 |none=>rw[e]at h;cases h
 |some j=>
  rw[e]at h;obtain⟨h1,h2,b,a⟩:=xp e;exact⟨j,h1,h,h2,b,a⟩
theorem bx{α:Type}{xs:List α}{j:Nat}{v:α}(h:xs[j]?=some v):iC xs (j:Int)=some v:=by
 have hj:j<xs.length:=(JX.mp h).1;have e:DQ xs.length (j:Int)=some j:=by
  unfold DQ;rw[q07 ⋯,q07 ⋯];simp
 unfold iC;rw[e];exact h
def Cj(b:Expr):Prop:=∀o i,subscripted b false o i=operate [o,i] (getItem o i)
def E9(X:Cx)(r:R2):Prop:=
 ∀(value slice:Expr) (pins:KZ) (s:K1) (σ:St) (H:Hp) (x y:V) (v u:Value) (Q:VK),Inv X pins σ H s->bF x v->bF y u->r x y H Q ->
  subscripted slice false v u=operate [v,u] (getItem v u)->wpAny (model X.prog X.w) X.A (subscriptTail value slice v u) (EP X pins σ Q) X.xe s
def GK(X:Cx)(id:String)(r:V->List V->Hp->VK->Prop):Prop:=
 ∀(pins:KZ) (s:K1) (σ:St) (H:Hp) (x:V) (xs:List V) (v:Value) (us:K2) (Q:VK),Inv X pins σ H s->bF x v->bp xs us->r x xs H Q ->
  wpAny (model X.prog X.w) X.A (call (.builtin id) (v::us)) (EP X pins σ Q) X.xe s
section
variable {X:Cx}{a b:Expr}{ta tb:TE}{pos:Pos}
theorem aU{r:R2}(hr:E9 X r)(ha:PE X a ta)(hb:PE X b tb)(hs:Cj b):PE X (.Subscript a b pos) (Ev r ta tb):=by
 intro c s σ H Q I h;exact Subscript_ (EB ha hb I h λv u d x y H2 i g e q=>hr a b c d σ H2 x y v u Q i g e q (hs _ _))
def AB(K:KY):R2:=λx y H Q=>∃p xs i v,x=.ref p/\y=.int i/\aN K H p xs/\iC xs i=some v/\Q v H
def Bb(K:KY):R2:=λx y H Q=>∃p xs i v,x=.ref p/\y=.int i/\dt K H p xs/\iC xs i=some v/\Q v H
def D3:R2:=λx y H Q=>∃z i c,x=.str z/\y=.int i/\z.length<=sizeLine/\iC z.cps.toList i=some c/\Q (.str ⟨#[c]⟩) H
theorem xB:E9 X (AB X.K):=by
 intro value slice a s σ H x y v u Q I rx ry h hs;obtain⟨p,xs,i,z,rfl,rfl,m,o,q⟩:=h;cases rx;obtain⟨t,rfl⟩:=ry;obtain⟨d,r,c,hz⟩:=I.list m;obtain⟨j,h1,h2,h3,C,B⟩:=rX o;obtain⟨w,k,b⟩:=r.get h2;have n:=r.length;have hn:=lE;have fin:EP X a σ Q w s:=⟨z,H,I,b,q⟩
 by_cases g:0<=i
 ·have e:i.toNat=j:=by
   rw[seqIndex_of g B]at h1;exact q0S h1
  exact item_listR c.isList g ⋯ (by rw[e];simpa using k) fin hs
 ·have e:(i+(d.toArray.size:Int)).toNat=j:=by
   rw[seqIndex_neg ⋯ C]at h1;rw[J5,<- n];exact q0S h1
  exact subscriptTail_builtinR (x:=w) c.isList.typeIs slot_list_getitem.lookup
   (wpAny_getItem_list_neg (Q:=λr l=>r=w/\EP X a σ Q r l) c.isList ⋯ (by rw[J5]<;>omega) ⋯ (by rw[e];simpa using k) ⟨rfl,fin⟩) hs
theorem Ep:E9 X (Bb X.K):=by
 intro value slice a s σ H x y v u Q I rx ry h hs;obtain⟨p,xs,i,z,rfl,rfl,e,k,q⟩:=h;cases rx;obtain⟨t,rfl⟩:=ry;obtain⟨its,r,c,hz⟩:=I.tuple e;obtain⟨j,h1,h2,h3,h4,h5⟩:=rX k;obtain⟨w,l,b⟩:=r.get h2;have g:=r.length;have hn:=lE;have fin:EP X a σ Q w s:=⟨z,H,I,b,q⟩;exact subscriptTail_builtinR (x:=w) c.typeIs slot_tuple_getitem.lookup
  (getItem_tuple (j:=j) (Q:=λr d=>r=w/\EP X a σ Q r d) c ⋯ ⋯ (by rw[J5,<- g];exact h1) (by simpa using l) ⟨rfl,fin⟩) hs
theorem oF:E9 X D3:=by
 intro value slice pins s σ H x y v u Q I rx ry h hs;obtain⟨z,i,c,rfl,rfl,hz,b,q⟩:=h;obtain⟨t,rfl⟩:=rx;obtain⟨t',rfl⟩:=ry;obtain⟨j,h1,h2,h3,e,d⟩:=rX b;have a:z.cps.toList.length=z.length:=by simp[Str.length]
 rw[a]at h1 e d;have hn:=lE;exact tail_any (typeIs_str s z t) slot_str_getitem.lookup (getItem_str (c:=c) (by
  have k:decide (i < -(2 ^ 63:Int))=false:=q08 ⋯;have g:decide (i≥2 ^ 63)=false:=q08 ⋯;rw[k,g,Bool.or_false]) (by rw[h1];simpa using h2) ⟨.str ⟨#[c]⟩,H,I.tok _,⟨_,rfl⟩,q⟩) hs
theorem wj(its:K2)(n j:Nat)(u:Value):Obj.mapSeq (·.setIfInBounds j u) {cls:=.type "list",data:=.seq its.toArray n}={cls:=.type "list",data:=.seq (its.set j u).toArray n}:=by
 simp[Obj.mapSeq]
theorem Inv.lst{pins:KZ}{σ:St}{H:Hp}{s:K1}{p:Addr}{xs:List V}(I:Inv X pins σ H s)(h:H p=some (.lst xs)) :
  ∃(its:K2) (n:Nat),bp xs its/\s.heap.get? p=some {cls:=.type "list",data:=.seq its.toArray n}/\xs.length<=sizeLine:=by
 obtain⟨z,its,n,r,e⟩:=I.hok p _ h;exact⟨its,n,r,e,z⟩
theorem Inv.lstUpd{pins:KZ}{σ:St}{H:Hp}{s:K1}{p:Addr}{xs ys:List V}{its its':K2}{n n':Nat}{f:Obj->Obj}(I:Inv X pins σ H s)(h:H p=some (.lst xs))
  (ho:s.heap.get? p=some {cls:=.type "list",data:=.seq its.toArray n}) (hf:f {cls:=.type "list",data:=.seq its.toArray n}={cls:=.type "list",data:=.seq its'.toArray n' }) (r:bp ys its') (hz:ys.length<=sizeLine) (t:Nat) :
  Inv X pins σ (aD H p (.lst ys)) {s with heap:=s.heap.update p f,toks:=t}:=by
 have e:(s.heap.update p f).get? p=some {cls:=.type "list",data:=.seq its'.toArray n' }:=by
  rw[J8 f ho (by rw[hf]<;>rfl),hf]
 refine I.write (x:=p) (e:=p) (by rw[h];trivial) (.inl rfl) (λb u a q=>(J3 _ _ (Ne.symm a)).trans q) ⟨_,e⟩ ?_;exact⟨hz,its',n',r,e⟩
def BE:V->V->V->Hp->(Hp->Prop)->Prop:=λo i v H Q=>∃p xs k j,o=.ref p/\i=.int k/\H p=some (.lst xs)/\DQ xs.length k=some j/\Q (aD H p (.lst (xs.set j v)))
theorem At:Fp X BE:=by
 intro a s σ H o i v ov iv u Q I ro ri rv h;obtain⟨p,y,k,j,rfl,rfl,g,B,q⟩:=h;cases ro;obtain⟨t,rfl⟩:=ri;obtain⟨b,n,r,c,z⟩:=I.lst g;obtain⟨h1,h2,m,l⟩:=xp B;have d:=r.length;have hn:=lE;have x:Inv X a σ (aD H p (.lst (y.set j v))) {s with heap:=s.heap.update p (Obj.mapSeq (·.setIfInBounds j u))}:=
  I.lstUpd g c (wj b n j u) (r.set rv j) (by rw[KO];exact z) s.toks
 by_cases w:0<=k
 ·have e:k.toNat=j:=by
   rw[seqIndex_of w l]at h1;exact q0S h1
  exact PySem.W.ki_setAt c w ⋯ (by rw[J5,<- d];exact l) (by rw[e];exact⟨_,x,q⟩)
 ·have e:(k+(b.toArray.size:Int)).toNat=j:=by
   rw[seqIndex_neg ⋯ m]at h1;rw[J5,<- d];exact q0S h1
  exact PySem.W.ki_setBack c ⋯ (by rw[J5,<- d];exact m) ⋯ (by rw[e];exact⟨_,x,q⟩)
theorem sH(lo hi:Option Int)(n:Nat):(sliceBounds lo hi none n).1=((HT.sIx n 0 lo:Nat):Int)/\(sliceBounds lo hi none n).2.1=((HT.sIx n n hi:Nat):Int)/\(sliceBounds lo hi none n).2.2=1:=by
 refine⟨?_,?_,rfl⟩
 ·cases lo with
  |none=>simp[sliceBounds,HT.sIx]
  |some i=>
   simp only[sliceBounds,HT.sIx,Option.getD_none,show(1:Int)>0 by decide,if_true]
   by_cases h:i<0
   ·simp only[h,if_true]<;>omega
   ·simp only[h,if_false]<;>omega
 ·cases hi with
  |none=>simp[sliceBounds,HT.sIx]
  |some i=>
   simp only[sliceBounds,HT.sIx,Option.getD_none,show(1:Int)>0 by decide,if_true]
   by_cases h:i<0
   ·simp only[h,if_true]<;>omega
   ·simp only[h,if_false]<;>omega
theorem pB(its:K2)(lo hi:Option Int):slicePick its.toArray lo hi none=((its.drop (HT.sIx its.length 0 lo)).take (HT.sIx its.length its.length hi-HT.sIx its.length 0 lo)).toArray:=by
 obtain⟨h1,h2,a⟩:=sH lo hi its.toArray.size;unfold slicePick;rw[h1,h2,a];simp only[sliceRange_one,pick_run,J5]<;>rfl
def D4(K:KY):V->Option Int->Option Int->Hp->VK->Prop:=λx lo hi H Q=>∃a xs,x=.ref a/\aN K H a xs/\∀p,H p=none->Q (.ref p) (aD H p (.lst (gS xs lo hi)))
theorem hZ:GL X (D4 X.K):=by
 intro pins s σ H x v vl vu lo hi sl Q I rx hs pl pu h;obtain⟨a,c,rfl,i,q⟩:=h;cases rx;obtain⟨its,r,e,g⟩:=I.list i;have d:=r.length;refine⟨"list",_,slot_list_getitem.lookup,e.isList.typeIs,?_⟩;refine wpAny_getItem_list_slice e.isList hs pl pu .none (by simp) ?_ (by rw[J5]<;>omega);rw[pB,<- d];refine⟨.ref s.heap.objs.size,_,I.laid (t':=s.toks) (o:=.lst (gS c lo hi)) (λb ob q=>JY _ q) (Kj _) ?_,rfl,q _ (I.hok.fresh (Kj _))⟩;exact⟨Ks (uS c lo hi) g,_,0,(r.drop (HT.sIx c.length 0 lo)).take (HT.sIx c.length c.length hi-HT.sIx c.length 0 lo),J4 _ rfl⟩
def iy:V->Bool
 | .non=>true
 | .bl _=>true
 | .int _=>true
 | .str _=>true
 |_=>false
def uf:V->V->Bool
 | .non,.non=>true
 | .bl a,.bl b=>a==b
 | .bl a,.int b=>(if a then 1 else 0)==b
 | .int a,.bl b=>a==(if b then 1 else 0)
 | .int a,.int b=>a==b
 | .str a,.str b=>a==b
 |_,_=>false
theorem fH{A:K8}{s:K1}{y x:V}{u v:Value}(ry:bF y u)(rx:bF x v)(fy:iy y=true)(fx:iy x=true):SeqAt.EqAt A s u v (uf y x):=by
 cases y with
 |non=>
  cases ry;cases x with
  |non=>cases rx;exact SeqAt.EqAt.same _
  |bl b=>cases rx;exact SeqAt.EqAt.none_bool b
  |int b=>obtain⟨t,rfl⟩:=rx;exact SeqAt.EqAt.none_int b t
  |str b=>obtain⟨t,rfl⟩:=rx;exact SeqAt.EqAt.none_str b t
  |_=>exact q0Q (show false=true from fx) Kl
 |bl a=>
  cases ry;cases x with
  |non=>cases rx;exact SeqAt.EqAt.bool_none a
  |bl b=>cases rx;exact SeqAt.EqAt.bool_bool a b
  |int b=>obtain⟨t,rfl⟩:=rx;exact SeqAt.EqAt.bool_int a b t
  |str b=>obtain⟨t,rfl⟩:=rx;exact SeqAt.EqAt.bool_str a b t
  |_=>exact q0Q (show false=true from fx) Kl
 |int a=>
  obtain⟨c,rfl⟩:=ry;cases x with
  |non=>cases rx;exact SeqAt.EqAt.int_none a c
  |bl b=>cases rx;exact SeqAt.EqAt.int_bool a c b
  |int b=>obtain⟨t,rfl⟩:=rx;exact SeqAt.EqAt.int_int a c b t
  |str b=>obtain⟨t,rfl⟩:=rx;exact SeqAt.EqAt.int_str a c b t
  |_=>exact q0Q (show false=true from fx) Kl
 |str a=>
  obtain⟨c,rfl⟩:=ry;cases x with
  |non=>cases rx;exact SeqAt.EqAt.str_none a c
  |bl b=>cases rx;exact SeqAt.EqAt.str_bool a c b
  |int b=>obtain⟨t,rfl⟩:=rx;exact SeqAt.EqAt.str_int a c b t
  |str b=>obtain⟨t,rfl⟩:=rx;exact SeqAt.EqAt.str_str a c b t
  |_=>exact q0Q (show false=true from fx) Kl
 |_=>exact q0Q (show false=true from fy) Kl
def C9(x:V)(u:Value):Bool:=match u with
 | .none=>uf .non x
 | .bool b=>uf (.bl b) x
 | .int i _=>uf (.int i) x
 | .str z _=>uf (.str z) x
 |_=>false
theorem BR{x y:V}{u:Value}(r:bF y u)(f:iy y=true):C9 x u=uf y x:=by
 cases y with
 |non=>cases r;rfl
 |bl b=>cases r;rfl
 |int i=>obtain⟨t,rfl⟩:=r;rfl
 |str z=>obtain⟨t,rfl⟩:=r;rfl
 |_=>exact q0Q (show false=true from f) Kl
theorem rF{x:V}:∀{xs:List V} {us:K2},bp xs us->xs.all iy=true->us.any (C9 x)=xs.any λy=>uf y x
 |_,_,.nil,_=>rfl
 |y::xs,u::us,.cons r t,f=>by
  rw[List.all_cons,q0O]at f;rw[List.any_cons,List.any_cons,BR r f.1,rF t f.2]
theorem nI{A:K8}{s:K1}{x:V}{v:Value}(rx:bF x v)(fx:iy x=true):∀{xs:List V} {us:K2},bp xs us->xs.all iy=true->∀u∈us,SeqAt.EqAt A s u v (C9 x u)
 |_,_,.nil,_=>λu hu=>by cases hu
 |y::xs,u::us,.cons r t,f=>λu' hu=>by
  rw[List.all_cons,q0O]at f;rcases Kb.mp hu with rfl | hu
  ·rw[BR r f.1];exact fH r rx f.1 fx
  ·exact nI rx fx t f.2 u' hu
def Dz(x:V)(xs:List V):Bool:=xs.any λy=>uf y x
def Hd(K:KY)(neg:Bool):R2:=λx y H Q=>∃p xs,y=.ref p/\(aN K H p xs\/dt K H p xs)/\iy x=true/\xs.all iy=true/\Q (.bl (if neg then !Dz x xs else Dz x xs)) H
theorem kz:bj X (compareOp .NotIn) (Hd X.K true):=by
 intro pins s σ H x y v u Q I rx ry h;obtain⟨p,xs,rfl,hq,d,fs,q⟩:=h;cases ry;rcases hq with hq | hq
 ·obtain⟨a,r,b,e⟩:=I.list hq
  refine SeqAt.notIn_listAt (C9 x) b.isList (λw c=>nI rx d r fs w (by simpa using c)) ⟨.bl _,H,I,rfl,?_⟩;rw[show a.toArray.any (C9 x)=a.any (C9 x) by simp,rF r fs];exact q
 ·obtain⟨a,r,b,e⟩:=I.tuple hq
  refine SeqAt.notIn_tupleAt (C9 x) b (λw c=>nI rx d r fs w (by simpa using c)) ⟨.bl _,H,I,rfl,?_⟩;rw[show a.toArray.any (C9 x)=a.any (C9 x) by simp,rF r fs];exact q
theorem kl:eQ X (.builtin "len") (λxs H Q=>∃p ys,xs=[.ref p]/\(aN X.K H p ys\/dt X.K H p ys)/\Q (.int ys.length) H):=by
 intro pins s σ H xs us Q I r h;obtain⟨p,ys,rfl,hq,q⟩:=h;obtain⟨u,rfl,e⟩:=nB r;cases e;have hn:=lE;rcases hq with hq | hq
 ·obtain⟨d,b,c,g⟩:=I.list hq
  have a:=b.length;exact Calls.call_len_list c.isList (by simp only[J5]<;>omega) ⟨.int ys.length,H,I.tok _,⟨s.toks+1,by rw[J5,a]⟩,q⟩
 ·obtain⟨d,b,c,g⟩:=I.tuple hq
  have a:=b.length;exact len_tuple c (by simp only[J5]<;>omega) ⟨.int ys.length,H,I.tok _,⟨s.toks+1,by rw[J5,a]⟩,q⟩
theorem aT:eQ X (.builtin "len") (λxs H Q=>∃z,xs=[.str z]/\z.length<=sizeLine/\Q (.int z.length) H):=by
 intro pins s σ H xs us Q I r h;obtain⟨z,rfl,hz,q⟩:=h;obtain⟨u,rfl,t,rfl⟩:=nB r;have hn:=lE;exact len_str ⋯ ⟨.int z.length,H,I.tok _,⟨_,rfl⟩,q⟩
theorem cI:eQ X (.type "list") (λxs H Q=>∃p ys,xs=[.ref p]/\(aN X.K H p ys\/dt X.K H p ys)/\∀l,H l=none->Q (.ref l) (aD H l (.lst ys))):=by
 intro i s σ H xs us Q I r h;obtain⟨p,ys,rfl,hq,q⟩:=h;obtain⟨u,rfl,z⟩:=nB r;cases z;have fin:∀(a:K2),bp ys a->ys.length<=sizeLine->∀(c:Heap) (g:Nat),(∀b o',s.heap.get? b=some o'->c.get? b=some o') ->
   c.get? s.heap.objs.size=some {cls:=.type "list",dict:=none,data:=.seq a.toArray g,slots:=#[]}->EP X i σ Q (.ref s.heap.objs.size) {s with heap:=c }:=λa d j c g kp e=>
  ⟨.ref s.heap.objs.size,_,I.laid (t':=s.toks) kp (Kj _) (show ce X.prog X.w _ c _ (.lst ys) from⟨j,a,g,d,e⟩),rfl,q _ (I.hok.fresh (Kj _))⟩
 rcases hq with hq | hq
 ·obtain⟨a,d,m,j⟩:=I.list hq
  have k:=d.length;obtain⟨o,v,y,n,x⟩:=m.isList;exact call_list_seq p (.inl rfl) v y x (λc g kp e=>fin a d j c g kp e) (by simp only[J5]<;>omega)
 ·obtain⟨a,d,m,j⟩:=I.tuple hq
  have k:=d.length;obtain⟨o,v,y,n,x⟩:=m;exact call_list_seq p (.inr rfl) v y x (λc g kp e=>fin a d j c g kp e) (by simp only[J5]<;>omega)
def GJ(K:KY)(T:String)(x:V)(H:Hp):Prop:=match x with
 | .str _=>T="str"
 | .int _=>T="int"
 | .ref p=>(T="list"/\∃xs,aN K H p xs)\/(T="tuple"/\∃o,K.lookup p=some o/\o.cls=.type "tuple"/\o.dict=none) \/
   (T="dict"/\((∃kvs,H p=some (.dK kvs))\/∃kvs,H p=some (.dT kvs)))\/(T="set"/\∃S n,H p=some (.set S n))
 |_=>False
theorem D0{pins:KZ}{σ:St}{H:Hp}{s:K1}{T:String}{x:V}{v:Value}(I:Inv X pins σ H s)(r:bF x v)(ty:GJ X.K T x H) :
  s.TypeIs v T/\∀a,v=.ref a->∃ob,s.heap.get? a=some ob/\ob.dict=none:=by
 cases x with
 |str z=>
  obtain⟨t,rfl⟩:=r;cases(show T="str" from ty);exact⟨typeIs_str s z t,λ_ e=>nomatch e⟩
 |int i=>
  obtain⟨t,rfl⟩:=r;cases(show T="int" from ty);exact⟨typeIs_int s i t,λ_ e=>nomatch e⟩
 |ref p=>
  cases r;rcases ty with⟨rfl,xs,m⟩ | ⟨rfl,o,b,q,j⟩ | ⟨rfl,b⟩ | ⟨rfl,S,n,b⟩
  ·obtain⟨its,_,l,_⟩:=I.list m
   refine⟨l.isList.typeIs,λa e=>?_⟩;cases e;obtain⟨o,n,e,c,j,_⟩:=l;exact⟨o,e,j⟩
  ·refine⟨⟨o,I.kIn p o b,q⟩,λa e=>?_⟩
   cases e;exact⟨o,I.kIn _ o b,j⟩
  ·have z:∃o,s.heap.get? p=some o/\o.ExactDict:=by
    rcases b with⟨g,b⟩ | ⟨g,b⟩
    ·obtain⟨_,_,_,_,o,_,_,e,d,_⟩:=I.hok p _ b
     exact⟨o,e,d⟩
    ·obtain⟨_,_,_,_,o,_,_,e,d,_⟩:=I.hok p _ b
     exact⟨o,e,d⟩
   obtain⟨o,e,d⟩:=z;refine⟨⟨o,e,d.1⟩,λa k=>?_⟩;cases k;exact⟨o,e,d.2.1⟩
  ·obtain⟨o,_,_,_,e,d,_⟩:=I.hok p _ b
   refine⟨⟨o,e,d.1⟩,λa k=>?_⟩;cases k;exact⟨o,e,d.2.1⟩
 |_=>exact False.elim ty
def FM(K:KY)(T:String)(r:V->List V->Hp->VK->Prop)(to:TE)(t:TA):TE:=λσ H Q=>to σ H λx H1=>GJ K T x H1/\t σ H1 λxs H2=>r x xs H2 Q
variable {o e:Expr}{es:Lb}{to:TE}{t:TA}{name:Str}{apos cpos:Pos}{T id:String}{r:V->List V->Hp->VK->Prop}
theorem cP(pa:PlainAttrs T)(slot:Slot T name id)(hty:typeOf (.builtin id)=pure (.type "method_descriptor"))(hm:GK X id r)(ho:PE X o to)(ha:PA X (e::es) t)
  (hbase:autoParam (attributeBase o name X.env (eval o X.env)=eval o X.env) zz0._auto_1)
  (hfew:autoParam (((backTo cpos (starEach (e::es) X.env)).all (λx=>!x.1)&&(backToKw cpos (keywordEach [] X.env)).all (λx=>x.1.isSome)
   && decide ((e::es).length+([]:List Keyword).length+(if([]:List Keyword).isEmpty then 0 else 1)<30))=true) zz0._auto_1)
  (hline:autoParam ((apos.endLine==cpos.line)=true) zz0._auto_1) (hs:autoParam (starEach (e::es) X.env=(false,eval e X.env)::starEach es X.env) zz0._auto_1) (hplain:autoParam ((backTo cpos (starEach es X.env)).any (·.1)=false) zz0._auto_1) :
  PE X (.Call (.Attribute o name apos) (e::es) [] cpos) (FM X.K T r to t):=by
 intro a s σ H Q I h;refine wpAny_Call_method_late hbase hfew hline rfl (cq (ho a s σ H _ I h) λv i ⟨x,H1,d,b,ty,l⟩=>?_);obtain⟨h1,h2⟩:=D0 d b ty;refine⟨T,id,pa,slot,hty,h1,h2,?_⟩;have c:=ha cpos a i σ H1 _ d l;rw[hs]at c ⊢;refine Calls.callWith_builtin (by show(false||(backTo cpos (starEach es X.env)).any (·.1))=false;rw[hplain]<;>rfl) (Calls.evalArgs_plain ?_);exact cq c λus g ⟨vs,H2,m,j,k⟩=>hm a g σ H2 x vs v us Q m b j k
end
def Hc(X:Cx)(id:String)(r:V->List V->Hp->VK->Prop):Prop:=
 ∀(pins:KZ) (s:K1) (σ:St) (H:Hp) (x:V) (xs:List V) (v:Value) (us:K2) (Q:VK),Inv X pins σ H s->bF x v->bp xs us->r x xs H Q ->
  wpAny (model X.prog X.w) X.A (call (.builtin id) (v::us)) (EP X pins σ Q) X.xe s
theorem bp.one{x:V}{us:K2}(h:bp [x] us):∃u,us=[u]/\bF x u:=by
 cases h with | cons r h=>cases h;exact⟨_,rfl,r⟩
theorem bp.two{x y:V}{us:K2}(h:bp [x,y] us):∃u v,us=[u,v]/\bF x u/\bF y v:=by
 cases h with | cons r h=>obtain⟨u,rfl,q⟩:=bp.one h;exact⟨_,_,rfl,r,q⟩
theorem bp.zero:∀{us:K2},bp [] us->us=[]
 |_,.nil=>rfl
section
variable {X:Cx}{pins:KZ}{σ:St}{H:Hp}{s:K1}{l b:Addr}{xs ys zs:List V}
theorem Inv.lset{its its':K2}{n:Nat}{f:Array Value->Array Value}{t':Nat}(I:Inv X pins σ H s)(hH:H l=some (.lst xs))
  (e:s.heap.get? l=some {cls:=.type "list",data:=.seq its.toArray n}) (hf:f its.toArray=its'.toArray) (hv:bp ys its') (hz:ys.length<=sizeLine) :
  Inv X pins σ (aD H l (.lst ys)) {s with heap:=s.heap.update l (Obj.mapSeq f),toks:=t' }:=by
 have q:=PySem.IsL.update e f;rw[hf]at q;refine I.write (x:=l) (e:=l) (by rw[hH];exact trivial) (.inl rfl) (λb' u b a=>(J3 s.heap (Obj.mapSeq f) (Ne.symm b)).trans a) ⟨_,q⟩ ?_;exact⟨hz,its',_,hv,q⟩
theorem Inv.lnew{its:K2}{t':Nat}(I:Inv X pins σ H s)(hv:bp ys its)(hz:ys.length<=sizeLine) :
  Inv X pins σ (aD H s.heap.objs.size (.lst ys)) {s with heap:=s.heap.push {cls:=.type "list",data:=.seq its.toArray},toks:=t' }:=
 I.laid (λ_ _ q=>JY _ q) (Kj _) ⟨hz,its,0,hv,J4 _ rfl⟩
theorem Inv.fresh(I:Inv X pins σ H s):H s.heap.objs.size=none:=I.hok.fresh (Kj _)
theorem Inv.lstM(I:Inv X pins σ H s)(hH:H l=some (.lst xs)):xs.length<=sizeLine/\∃(its:K2) (n:Nat),bp xs its/\xs.length=its.length/\s.heap.get? l=some {cls:=.type "list",data:=.seq its.toArray n}:=by
 obtain⟨z,its,n,r,e⟩:=I.hok l _ hH;exact⟨z,its,n,r,r.length,e⟩
theorem Ay{n:Nat}(h:n<=sizeLine):Builtin.List.listTooLong n=false:=by
 unfold Builtin.List.listTooLong;exact q08 ⋯
end
section
variable {X:Cx}
def sj:V->List V->Hp->VK->Prop:=λx vs H Q=>∃l xs y,x=.ref l/\vs=[y]/\H l=some (.lst xs)/\xs.length<sizeLine/\Q .non (aD H l (.lst (xs++[y])))
theorem bw:Hc X "list.append" sj:=by
 intro pins s σ H x vs v us Q I rx rv h;obtain⟨l,xs,y,rfl,rfl,b,hz,q⟩:=h;cases rx;obtain⟨u,rfl,c⟩:=rv.one;obtain⟨z,a,n,r,hl,e⟩:=I.lstM b;refine call_meets F.slot_list_append ⟨_,e,rfl⟩ F.entry_list_append (F.args_list_append_2 _ _) (PySem.list_append l a.toArray n u (by rw[J5];omega)) ⟨e,?_⟩;refine⟨.non,_,I.lset (its':=a++[u]) b e (by simp) (r.append (.cons c .nil)) ?_,rfl,q⟩;rw[Ki,q0Z];omega
theorem q03{X:Cx}{o e:Expr}{es:List Expr}{to:TE}{t:TA}{apos cpos:Pos}(ho:PE X o to)(ha:PA X (e::es) t)
  (hbase:autoParam (attributeBase o "append" X.env (eval o X.env)=eval o X.env) zz0._auto_1)
  (hfew:autoParam (((backTo cpos (starEach (e::es) X.env)).all (λx=>!x.1)&&(backToKw cpos (keywordEach [] X.env)).all (λx=>x.1.isSome)
   && decide ((e::es).length+([]:List Keyword).length+(if([]:List Keyword).isEmpty then 0 else 1)<30))=true) zz0._auto_1)
  (hline:autoParam ((apos.endLine==cpos.line)=true) zz0._auto_1) (hs:autoParam (starEach (e::es) X.env=(false,eval e X.env)::starEach es X.env) zz0._auto_1) (hplain:autoParam ((backTo cpos (starEach es X.env)).any (·.1)=false) zz0._auto_1) :
  PE X (.Call (.Attribute o "append" apos) (e::es) [] cpos) (FM X.K "list" sj to t):=cP PySem.F.plainAttrs_list PySem.F.slot_list_append PySem.F.type_list_append bw ho ha hbase hfew hline hs hplain
def tm:V->List V->Hp->VK->Prop:=λx vs H Q=>∃l b xs zs,x=.ref l/\vs=[.ref b]/\H l=some (.lst xs)/\H b=some (.lst zs)/\xs.length+zs.length<=sizeLine/\Q .non (aD H l (.lst (xs++zs)))
theorem zg:Hc X "list.extend" tm:=by
 intro pins s σ H x vs v us Q I rx rv h;obtain⟨l,b,xs,zs,rfl,rfl,i,o,hz,q⟩:=h;cases rx;obtain⟨u,rfl,j⟩:=rv.one;cases j;obtain⟨z,c,n,r,hl,e⟩:=I.lstM i;obtain⟨z2,a,m,k,hl2,p⟩:=I.lstM o;have g:c.toArray.size+a.toArray.size<=sizeLine:=by rw[J5,J5];omega
 have d:¬ (!c.toArray.isEmpty&&Builtin.List.listTooLong (c.toArray.size+a.toArray.size))=true:=by
  rw[Ay g,Bool.and_false];exact Kl
 refine call_meets F.slot_list_extend ⟨_,e,rfl⟩ F.entry_list_extend (F.args_list_extend_2 _ _)
  (AutoSeq1.list_extend_list_list_0 l c.toArray n b a.toArray m d (by rw[J5];omega) ⋯) ⟨e,p,?_⟩
 refine⟨.non,_,I.lset (its':=c++a) i e (by simp) (r.append k) ?_,rfl,q⟩;rw[Ki];omega
def EI:R2:=λx y H Q=>∃l b xs zs,x=.ref l/\y=.ref b/\H l=some (.lst xs)/\H b=some (.lst zs)/\xs.length+zs.length<=sizeLine/\∀p,H p=none->Q (.ref p) (aD H p (.lst (xs++zs)))
theorem qZ:bj X (binaryOp .Add) EI:=by
 intro pins s σ H x y v u Q I rx ry h;obtain⟨l,b,xs,zs,rfl,rfl,g,i,hz,q⟩:=h;cases rx;cases ry;obtain⟨z,c,n,r,hl,e⟩:=I.lstM g;obtain⟨z2,a,n2,d,hl2,k⟩:=I.lstM i;refine PySem.P.add_list e k ?_ (by rw[J5,J5];omega);have j:c.toArray++a.toArray=(c++a).toArray:=by simp
 rw[j];exact⟨.ref _,_,I.lnew (t':=s.toks) (r.append d) (by rw[Ki];omega),rfl,q _ I.fresh⟩
theorem qV{α:Type}(xs:List α)(k:Nat):(List.replicate k xs).flatten.length=k*xs.length:=by
 induction k with
 |zero=>simp
 |succ k ih=>rw[q0c,List.flatten_cons,Ki,ih,Nat.succ_mul,Nat.add_comm]
end
section
variable {κ:Type}[DecidableEq κ]
def dM(kvs:List (κ×V))(k:κ):Option V:=(kvs.find? λkv=>decide (kv.1=k)).map (·.2)
def dw(kvs:List (κ×V))(k:κ)(v:V):List (κ×V):=
 if(kvs.any λkv=>decide (kv.1=k))=true then kvs.map (λkv=>if kv.1=k then(kv.1,v) else kv) else kvs++[(k,v)]
theorem gJ{p:κ×V}{r:List (κ×V)}{k:κ}(e:p.1=k):dM (p::r) k=some p.2:=by simp[dM,List.find?_cons,e]
theorem gG{p:κ×V}{r:List (κ×V)}{k:κ}(e:¬ p.1=k):dM (p::r) k=dM r k:=by simp[dM,List.find?_cons,e]
theorem gy(k:κ):∀kvs:List (κ×V),(kvs.any λkv=>decide (kv.1=k))=(dM kvs k).isSome
 | []=>rfl
 |p::r=>by
  rw[List.any_cons]
  by_cases e:p.1=k
  ·simp only[gJ e,q09 e,Bool.true_or,Option.isSome_some]
  ·rw[gG e,q08 e,Bool.false_or];exact gy k r
theorem ge(kvs:List (κ×V))(k:κ)(v:V):(dw kvs k v).length<=kvs.length+1:=by
 unfold dw
 split
 ·rw[JZ];omega
 ·rw[Ki,J9,List.length_nil];omega
theorem BG{kvs:List (κ×V)}{k:κ}(v:V)(h:dM kvs k=none):dw kvs k v=kvs++[(k,v)]:=by
 unfold dw;rw[gy,h];exact q06 (by decide)
theorem jh.isSome_eq{o:Option V}{u:Option Value}(r:jh o u):o.isSome=u.isSome:=by
 cases o with
 |none=>cases u with
  |none=>rfl
  |some _=>exact(show False from r).elim
 |some _=>cases u with
  |none=>exact(show False from r).elim
  |some _=>rfl
theorem KV.val{kvs:List (κ×V)}{vs:List (κ×Value)}(r:KV kvs vs)(k:κ):jh (dM kvs k) (valueAt vs k):=by
 unfold KV at r
 induction r with
 |nil=>exact True.intro
 | @cons p q ps qs h t ih=>
  obtain⟨h1,h2⟩:=h
  by_cases e:p.1=k
  ·have a:q.1=k:=h1.symm.trans e
   have b:valueAt (q::qs) k=some q.2:=by simp[valueAt,List.find?_cons,a]
   rw[gJ e,b];exact h2
  ·have a:¬ q.1=k:=λz=>e (h1.trans z)
   have b:valueAt (q::qs) k=valueAt qs k:=by simp[valueAt,List.find?_cons,a]
   rw[gG e,b];exact ih
theorem KV.any{kvs:List (κ×V)}{vs:List (κ×Value)}(r:KV kvs vs)(k:κ):(kvs.any λkv=>decide (kv.1=k))=vs.any λkv=>decide (kv.1=k):=by
 unfold KV at r
 induction r with
 |nil=>rfl
 |cons h t ih=>rw[List.any_cons,List.any_cons,ih,h.1]
theorem KV.repl{kvs:List (κ×V)}{vs:List (κ×Value)}(r:KV kvs vs)(k:κ){y:V}{u:Value}(ry:bF y u) :
  KV (kvs.map λkv=>if kv.1=k then(kv.1,y) else kv) (vs.map λkv=>if kv.1=k then(kv.1,u) else kv):=by
 unfold KV at r ⊢
 induction r with
 |nil=>exact .nil
 | @cons p q ps qs h t ih=>
  rw[Kq,Kq];refine .cons ?_ ih;obtain⟨h1,h2⟩:=h
  by_cases e:p.1=k
  ·rw[q07 e,q07 (h1.symm.trans e)];exact⟨h1,ry⟩
  ·rw[q06 e,q06 (λz=>e (h1.trans z))];exact⟨h1,h2⟩
theorem KV.put{kvs:List (κ×V)}{vs:List (κ×Value)}(r:KV kvs vs)(k:κ){y:V}{u:Value}(ry:bF y u):KV (dw kvs k y) (stored vs k u):=by
 unfold dw stored;rw[r.any k]
 by_cases e:(vs.any λa=>decide (a.1=k))=true
 ·rw[q07 e,q07 e];exact r.repl k ry
 ·rw[q06 e,q06 e];exact Paired.snoc r ⟨rfl,ry⟩
theorem KV.keys{kvs:List (κ×V)}{vs:List (κ×Value)}(r:KV kvs vs):kvs.map (·.1)=vs.map (·.1):=by
 unfold KV at r
 induction r with
 |nil=>rfl
 |cons h t ih=>rw[Kq,Kq,ih,h.1]
theorem KV.length{kvs:List (κ×V)}{vs:List (κ×Value)}(r:KV kvs vs):kvs.length=vs.length:=Paired.length r
end
theorem m_{P:K6}{w:K9}{k:cM}{u:Value}(r:bF (kV k) u):(cj P w).is k u=true:=by
 cases k with
 |inl i=>obtain⟨t,e⟩:=(show ∃t,u=Value.int i t from r);subst e;exact uy P w i t
 |inr x=>obtain⟨t,e⟩:=(show ∃t,u=Value.str x t from r);subst e;exact uJ P w x t
theorem qG{P:K6}{w:K9}:∀{ks:List cM} {us:K2},bp (ks.map kV) us->ItemsAre (cj P w) ks us
 | [],_,r=>by rw[List.map_nil]at r;cases r;exact .nil
 |k::ks,_,r=>by
  rw[Kq]at r;cases r with
  |cons h t=>exact .cons (m_ h) (qG t)
abbrev KT(H:Hp):List (List cM×V)->List (List cM×Addr×Value)->Prop:=Paired λp q=>p.1=q.1/\H q.2.1=some (.tup (p.1.map kV))/\bF p.2 q.2.2
theorem KT.val{H:Hp}{kvs:List (List cM×V)}{xs:List (List cM×Addr×Value)}(r:KT H kvs xs)(k:List cM):jh (dM kvs k) ((atKey xs k).map (·.2)):=by
 induction r with
 |nil=>exact True.intro
 | @cons p q ps qs h t ih=>
  obtain⟨h1,_,h2⟩:=h
  by_cases e:p.1=k
  ·have a:q.1=k:=h1.symm.trans e
   have b:atKey (q::qs) k=some q.2:=by simp[atKey,List.find?_cons,a]
   rw[gJ e,b];exact h2
  ·have a:¬ q.1=k:=λz=>e (h1.trans z)
   have b:atKey (q::qs) k=atKey qs k:=by simp[atKey,List.find?_cons,a]
   rw[gG e,b];exact ih
theorem KT.repl{H:Hp}{kvs:List (List cM×V)}{xs:List (List cM×Addr×Value)}(r:KT H kvs xs)(k:List cM){y:V}{u:Value}(ry:bF y u) :
  KT H (kvs.map λkv=>if kv.1=k then(kv.1,y) else kv) (xs.map (putAt k u)):=by
 induction r with
 |nil=>exact .nil
 | @cons p q ps qs h t ih=>
  rw[Kq,Kq];refine .cons ?_ ih;obtain⟨h1,h2,a⟩:=h;unfold putAt
  by_cases e:p.1=k
  ·rw[q07 e,q07 (h1.symm.trans e)];exact⟨h1,h2,ry⟩
  ·rw[q06 e,q06 (λz=>e (h1.trans z))];exact⟨h1,h2,a⟩
theorem KT.put{H:Hp}{kvs:List (List cM×V)}{xs:List (List cM×Addr×Value)}(r:KT H kvs xs)(k:List cM){b:Addr}{y:V}{u:Value}(hb:H b=some (.tup (k.map kV)))(ry:bF y u) :
  KT H (dw kvs k y) (storedH xs k b u):=by
 have e:(kvs.any λa=>decide (a.1=k))=(atKey xs k).isSome:=by
  rw[gy,(r.val k).isSome_eq,Option.isSome_map]
 unfold dw storedH;rw[e]
 by_cases q:(atKey xs k).isSome=true
 ·rw[q07 q,q07 q];exact r.repl k ry
 ·rw[q06 q,q06 q];exact Paired.snoc r ⟨rfl,hb,ry⟩
theorem KT.keeps{H H':Hp}{kvs:List (List cM×V)}{xs:List (List cM×Addr×Value)}(r:KT H kvs xs)(ht:∀b ys,H b=some (.tup ys)->H' b=some (.tup ys)):KT H' kvs xs:=
 Paired.mapP r λ_ _ z=>⟨z.1,ht _ _ z.2.1,z.2.2⟩
section
variable {P:K6}{w:K9}{H:Hp}{h:Heap}{a:Addr}
theorem DE{u:HO}(ok:jf P w H h)(e:Rd H a u):ce P w H h a u:=e.ok ok
theorem nG{kvs:List (cM×V)}(ok:jf P w H h)(e:Rd H a (.dK kvs)):kvs.length<=sizeLine/\(a==sysModules)=false/\∃vs,KV kvs vs/\h.DictOf (cj P w) a vs:=
 show ce P w H h a (.dK kvs) from DE ok e
theorem pY{kvs:List (cM×V)}(ok:jf P w H h)(e:H a=some (.dK kvs)):kvs.length<=sizeLine/\(a==sysModules)=false/\∃vs,KV kvs vs/\h.DictOf (cj P w) a vs:=nG ok (.inl e)
theorem nK{ks:List cM}(ok:jf P w H h)(e:H a=some (.tup (ks.map kV))):(tupleKind (cj P w)).is h ks a:=by
 obtain⟨_,b,r,o,h1,h2,n,c⟩:=(show ce P w H h a (.tup (ks.map kV)) from ok a _ e);exact⟨o,b.toArray,n,h1,h2,c,by simpa using qG r⟩
theorem qE{kvs:List (List cM×V)}(ok:jf P w H h)(e:Rd H a (.dT kvs)):kvs.length<=sizeLine/\(a==sysModules)=false /\
  ∃xs,KT H kvs xs/\h.DictOfH (tupleKind (cj P w)) a xs:=by
 obtain⟨z,y,xs,r,o,g,i,h1,h2,d,c,b⟩:=(show ce P w H h a (.dT kvs) from DE ok e);refine⟨z,y,xs,r,o,g,i,h1,h2,d,c,λx hx=>?_,b⟩;have all:∀{l:List (List cM×V)} {m:List (List cM×Addr×Value)},KT H l m->∀x∈m,(tupleKind (cj P w)).is h x.1 x.2.1:=by
  intro l m q
  induction q with
  |nil=>intro x hx;exact nomatch hx
  | @cons p q ps qs hq t ih=>
   intro x hx;rcases Kb.mp hx with e | hx
   ·subst e
    exact nK ok (by rw[<- hq.1];exact hq.2.1)
   ·exact ih x hx
 exact all r x hx
theorem FS{kvs:List (List cM×V)}(ok:jf P w H h)(e:H a=some (.dT kvs)):kvs.length<=sizeLine/\(a==sysModules)=false /\
  ∃xs,KT H kvs xs/\h.DictOfH (tupleKind (cj P w)) a xs:=qE ok (.inl e)
end
def kN(H:Hp)(a:Addr)(y:V)(r:Option V):Prop:=
 (∃kvs k,Rd H a (.dK kvs)/\y=kV k/\r=dM kvs k)\/∃kvs k b,Rd H a (.dT kvs)/\y=.ref b/\H b=some (.tup (k.map kV))/\r=dM kvs k
def yG(H:Hp)(a:Addr)(y v:V)(H':Hp):Prop:=
 (∃kvs k,H a=some (.dK kvs)/\y=kV k/\kvs.length<sizeLine/\H'=aD H a (.dK (dw kvs k v))) \/
 ∃kvs k b,H a=some (.dT kvs)/\y=.ref b/\H b=some (.tup (k.map kV))/\kvs.length<sizeLine/\H'=aD H a (.dT (dw kvs k v))
theorem kN.t{H:Hp}{a b:Addr}{kvs:List (List cM×V)}{k:List cM}(e:H a=some (.dT kvs))(eb:H b=some (.tup (k.map kV))):kN H a (.ref b) (dM kvs k):=.inr ⟨kvs,k,b,.inl e,rfl,eb,rfl⟩
theorem yG.t{H:Hp}{a b:Addr}{kvs:List (List cM×V)}{k:List cM}{v:V}(e:H a=some (.dT kvs))(eb:H b=some (.tup (k.map kV)))(hl:kvs.length<sizeLine) :
  yG H a (.ref b) v (aD H a (.dT (dw kvs k v))):=.inr ⟨kvs,k,b,e,rfl,eb,hl,rfl⟩
section
variable {X:Cx}{pins:KZ}{σ:St}{H:Hp}{s:K1}{a:Addr}{y v:V}{u r:Value}{o:Option V}{A:K8}{E:KW}
theorem Inv.big(I:Inv X pins σ H s):sysModules<s.heap.objs.size:=by
 have h:mainGlobals<s.heap.objs.size:=(I.mod.glob.keeps I.bk).lt;exact Nat.lt_trans (by decide) h
theorem zy{Q:KW}(hu:A.units+1<cLine)(I:Inv X pins σ H s)(g:kN H a y (some v))(ry:bF y u)(h:∀w' s',Inv X pins σ H s'->bF v w'->Q w' s') :
  wpAny (model X.prog X.w) A (getItem (.ref a) u) Q E s:=by
 rcases g with⟨i,k,e,n,l⟩ | ⟨i,k,b,e,n,B,l⟩
 ·subst n
  obtain⟨z,x,vs,d,q⟩:=nG I.hok e;obtain⟨w',j,c⟩:=jh.some_of (v:=v) (o:=valueAt vs k) (by rw[l];exact d.val k);exact wpAny_getItem_of (m_ ry) q.mapOf j (h w' _ (I.tok _) c)
 ·subst n
  cases(show u=Value.ref b from ry);obtain⟨z,x,r,d,q⟩:=qE I.hok e;obtain⟨w',j,c⟩:=jh.some_of (v:=v) (o:=(atKey r k).map (·.2)) (by rw[l];exact d.val k);obtain⟨p,w,m⟩:=Kn.mp j;refine wpAny_getItem_heap (tupleKind_room_in1 hu) (nK I.hok B) q w ?_;rw[m];exact h w' _ (I.tok _) c
theorem GH{Q:KW}(hu:A.units+1<cLine)(I:Inv X pins σ H s)(g:kN H a y o)(ry:bF y u)(h:∀s',Inv X pins σ H s'->Q (.bool o.isSome) s') :
  wpAny (model X.prog X.w) A (compareOp .In u (.ref a)) Q E s:=by
 rcases g with⟨d,k,e,j,l⟩ | ⟨d,k,b,e,j,n,l⟩
 ·subst j
  obtain⟨z,i,vs,c,m⟩:=nG I.hok e;refine wpAny_in_of (m_ ry) i m.mapOf ?_;rw[<- (c.val k).isSome_eq,<- l];exact h _ (I.tok _)
 ·subst j
  cases(show u=Value.ref b from ry);obtain⟨z,i,xs,c,m⟩:=qE I.hok e;refine wpAny_in_heap (tupleKind_room_in1 hu) (nK I.hok n) i m ?_;have q:=(c.val k).isSome_eq;rw[Option.isSome_map]at q;rw[<- q,<- l];exact h _ (I.tok _)
theorem CP{Q:KW}(hu:A.units+1<cLine)(I:Inv X pins σ H s)(g:kN H a y o)(ry:bF y u)(h:∀s',Inv X pins σ H s'->Q (.bool (!o.isSome)) s') :
  wpAny (model X.prog X.w) A (compareOp .NotIn u (.ref a)) Q E s:=by
 rcases g with⟨d,k,e,j,l⟩ | ⟨d,k,b,e,j,n,l⟩
 ·subst j
  obtain⟨z,i,vs,c,m⟩:=nG I.hok e;refine wpAny_notIn_of (m_ ry) i m.mapOf ?_;rw[<- (c.val k).isSome_eq,<- l];exact h _ (I.tok _)
 ·subst j
  cases(show u=Value.ref b from ry);obtain⟨z,i,xs,c,m⟩:=qE I.hok e;refine wpAny_notIn_heap (tupleKind_room_in1 hu) (nK I.hok n) i m ?_;have q:=(c.val k).isSome_eq;rw[Option.isSome_map]at q;rw[<- q,<- l];exact h _ (I.tok _)
theorem mX{h':Heap}{t':Nat}{ob:HO}(I:Inv X pins σ H s)(mu:Fa (H a))(hs:Heap.SameBut a s.heap h')(he:∃q,h'.get? a=some q)(new:ce X.prog X.w (aD H a ob) h' a ob) :
  Inv X pins σ (aD H a ob) {s with heap:=h',toks:=t' }:=
 I.write (x:=a) (e:=a) mu (.inl rfl) (λb q hb z=>(hs.2 b hb).trans z) he new
theorem vF{P:K6}{w:K9}{H':Hp}{h':Heap}{kvs:List (cM×V)}{vs:List (cM×Value)}(z:kvs.length<=sizeLine)(hd:(a==sysModules)=false)(rel:KV kvs vs)(dd:h'.DictOf (cj P w) a vs) :
  ce P w H' h' a (.dK kvs):=⟨z,hd,vs,rel,dd⟩
theorem x_{H':Hp}{Q:Unit->Shared->Prop}(hu:A.units+1<cLine)(I:Inv X pins σ H s)(g:yG H a y v H')(ry:bF y u)(rv:bF v r)(h:∀s',Inv X pins σ H' s'->Q () s') :
  wpAny (model X.prog X.w) A (setItem (.ref a) u r) Q E s:=by
 rcases g with⟨i,k,e,x,l,B⟩ | ⟨i,k,b,e,x,J,l,B⟩
 ·subst x B
  obtain⟨z,w,vs,d,C⟩:=pY I.hok e;have n:vs.length<=sizeLine:=by rw[<- d.length];exact z
  have p:(dw i k v).length<=sizeLine:=by have:=ge i k v;omega
  refine wpAny_setItem_pairs (hsz:=n) (m_ ry) C λD j o=>h _ ?_;have M:∃q,D.get? a=some q:=let ⟨q,_,_,m,_⟩:=j;⟨q,m⟩
  exact mX I (by rw[e];exact True.intro) o M (vF p w (d.put k rv) j)
 ·subst x B
  cases(show u=Value.ref b from ry);obtain⟨z,w,L,d,C⟩:=FS I.hok e;have n:L.length<=sizeLine:=by rw[<- Paired.length d];exact z
  have p:(dw i k v).length<=sizeLine:=by have:=ge i k v;omega
  refine wpAny_setItem_heap (hsz:=n) (tupleKind_room_in1 hu) (nK I.hok J) C λD j o=>h _ ?_;obtain⟨q,T,U,m,h2,S,R,_,O⟩:=j;refine mX I (by rw[e];exact True.intro) o ⟨q,m⟩ ⟨p,w,_,(d.put k J rv).keeps λc ys G=>?_,q,T,U,m,h2,S,R,O⟩;rw[ar (pV G e (λz=>nomatch z))];exact G
end
section
variable {X:Cx}{pins:KZ}{σ:St}{H:Hp}{s:K1}{a:Addr}{kvs:List (cM×V)}{k:cM}{u:Value}{A:K8}{E:KW}
theorem Fh{Q:KW}(I:Inv X pins σ H s)(e:Rd H a (.dK kvs))(h:∀t s',Inv X pins σ H s'->Q (.int kvs.length t) s'):wpAny (model X.prog X.w) A (call (.builtin "len") [.ref a]) Q E s:=by
 obtain⟨z,c,vs,b,d⟩:=nG I.hok e;refine call_len_dict c d (by rw[<- b.length];rw[q0W]at z;omega) ?_;rw[<- b.length];exact h _ _ (I.tok _)
end
def Fj(i:Expr):Prop:=∀ov iv,subscripted i false ov iv=operate [ov,iv] (getItem ov iv)
theorem BZ{prog:K6}{w:K9}{A:K8}{E:KW}{s:K1}{env:Env}{value slice:Expr}{pos:Pos}{T id:String}{Q:KW}
  (hl:typeLookup (.type T) "__getitem__"=pure (some (.builtin id))) (hs:Fj slice)
  (h:wpAny (model prog w) A (eval value env) (λo s₁=>wpAny (model prog w) A (eval slice env) (λi s₂=>s₂.TypeIs o T/\wpAny (model prog w) A (getItem o i) Q E s₂) E s₁) E s) :
  wpAny (model prog w) A (eval (.Subscript value slice pos) env) Q E s:=by
 refine Subscript_ (q0X h (λo s₁ e=>q0X e (λi s₂ a=>?_) λ_ _ x=>x) λ_ _ x=>x);obtain⟨c,a⟩:=a;unfold subscriptTail;refine q04 ?_;rw[getitemInPython_of_ne c.not_modules];refine q04 (wpAny_specialOf c hl ?_);have fin:wpAny (model prog w) A (subscripted slice false o i) (λr b=>wpAny (model prog w) A (letTemporaryGo value o r >>= λ_=>pure r) Q E b) E s₂:=by
  rw[hs o i];exact wpAny_operating (q0X a (λr b d=>q04 (wpAny_letTemporaryGo (q05 d))) λ_ _ x=>x)
 first
  |exact q05 (q04 fin)
  |exact q04 (q05 (q04 fin))
  |exact q04 fin
theorem uE{X:Cx}{pins:KZ}{σ:St}{H:Hp}{s:K1}{a:Addr}{y:V}{o:Option V}(I:Inv X pins σ H s)(g:kN H a y o):s.TypeIs (.ref a) "dict":=by
 rcases g with⟨c,k,e,_,_⟩ | ⟨c,k,b,e,_,_,_⟩
 ·obtain⟨_,_,vs,_,d⟩:=nG I.hok e
  exact d.typeIs
 ·obtain⟨_,_,xs,_,d⟩:=qE I.hok e
  exact d.typeIs
def AW(td ty:TE):TE:=λσ H Q=>td σ H λx H1=>ty σ H1 λy H2=>∃a v,x=.ref a/\kN H2 a y (some v)/\Q v H2
def Ek(ty td:TE):TE:=λσ H Q=>ty σ H λy H1=>td σ H1 λx H2=>∃a o,x=.ref a/\kN H2 a y o/\Q (.bl o.isSome) H2
def sv(ty td:TE):TE:=λσ H Q=>ty σ H λy H1=>td σ H1 λx H2=>∃a o,x=.ref a/\kN H2 a y o/\Q (.bl (!o.isSome)) H2
def zD(td ty tv:TE):TS:=λD σ H=>tv σ H λv H1=>td σ H1 λx H2=>ty σ H2 λy H3=>∃a H4,x=.ref a/\yG H3 a y v H4/\D.nx σ H4
section
variable {X:Cx}{o i e value:Expr}{pos pos' tpos:Pos}{td ty tv:TE}
theorem ik(hu:X.A.units+1<cLine)(ho:PE X o td)(hi:PE X i ty)(hs:Fj i):PE X (.Subscript o i pos) (AW td ty):=by
 intro b s σ H Q I h;refine BZ PySem.F.slot_dict_getitem.lookup hs (cq (ho b s σ H _ I h) λu e ⟨x,H1,q,k,m⟩=>cq (hi b e σ H1 _ q m) λiv s2 ⟨y,H2,d,j,a,v,n,g,l⟩=>?_);subst n;obtain rfl:u=Value.ref a:=k;exact⟨uE d g,zy hu d g j λw' s3 p c=>⟨v,H2,p,c,l⟩⟩
theorem vL(hu:X.A.units+1<cLine)(hi:PE X i ty)(ho:PE X o td):PC X .In i o (Ek ty td):=by
 intro b s σ H Q I h;refine cq (hi b s σ H _ I h) λiv c ⟨y,H1,q,d,k⟩=>cq (ho b c σ H1 _ q k) λu s2 ⟨x,H2,p,e,a,l,m,g,j⟩=>?_;subst m;obtain rfl:u=Value.ref a:=e;exact GH hu p g d λs3 n=>⟨.bl l.isSome,H2,n,rfl,j⟩
theorem qH(hu:X.A.units+1<cLine)(hi:PE X i ty)(ho:PE X o td):PC X .NotIn i o (sv ty td):=by
 intro b s σ H Q I h;refine cq (hi b s σ H _ I h) λiv c ⟨y,H1,q,d,k⟩=>cq (ho b c σ H1 _ q k) λu s2 ⟨x,H2,p,e,a,l,m,g,j⟩=>?_;subst m;obtain rfl:u=Value.ref a:=e;exact CP hu p g d λs3 n=>⟨.bl (!l.isSome),H2,n,rfl,j⟩
theorem re(hu:X.A.units+1<cLine)(ho:PE X o td)(hi:PE X i ty)(hv:PE X value tv)(hs:swapsWith value (some (.Subscript o i pos')) pos.line X.env=pure false) :
  PS X (.Assign [.Subscript o i pos'] value pos) (zD td ty tv):=by
 intro b s σ H D I h;refine wpAny_Assign_Subscript (cq (hv b s σ H _ I h) λr d ⟨v,H1,B,k,n⟩=>cq (ho b d σ H1 _ B n) λu c ⟨x,H2,z,j,m⟩=>cq (hi b c σ H2 _ z m) λiv s3 ⟨y,H3,w,e,a,C,p,g,l⟩=>?_) hs;subst p;obtain rfl:u=Value.ref a:=j;exact x_ hu w g e k λs4 q=>⟨σ,C,q,l⟩
end
theorem u0{P:K6}{w:K9}{H:Hp}(h:Heap)(hb:sysModules<h.objs.size):ce P w H (h.push {cls:=.type "dict",data:=.dict #[]}) h.objs.size (.dK []):=
 ⟨Kk _,beq_eq_false_iff_ne.mpr (Ne.symm (Kf hb)),[],.nil,Heap.DictOf.new h⟩
theorem AR{P:K6}{w:K9}{H:Hp}(h:Heap)(hb:sysModules<h.objs.size):ce P w H (h.push {cls:=.type "dict",data:=.dict #[]}) h.objs.size (.dT []):=
 ⟨Kk _,beq_eq_false_iff_ne.mpr (Ne.symm (Kf hb)),[],.nil,_,#[],0,J4 _ rfl,⟨rfl,rfl,rfl⟩,rfl,rfl,List.nodup_nil⟩
def vG:TE:=λ_ H Q=>∀p,H p=none->Q (.ref p) (aD H p (.dK []))
def wY:TE:=λ_ H Q=>∀p,H p=none->Q (.ref p) (aD H p (.dT []))
section
variable {X:Cx}{pos:Pos}
theorem vf:PE X (.Dict [] [] pos) vG:=λpins s σ H Q I h=>
 wpAny_Dict_empty ⟨.ref s.heap.objs.size,_,I.laid (a:=s.heap.objs.size) (o:=.dK []) (t':=s.toks) (λ_ _ q=>JY _ q) (Kj _) (u0 s.heap I.big),rfl,h _ (I.hok.fresh (Kj _))⟩
theorem BQ:PE X (.Dict [] [] pos) wY:=λpins s σ H Q I h=>
 wpAny_Dict_empty ⟨.ref s.heap.objs.size,_,I.laid (a:=s.heap.objs.size) (o:=.dT []) (t':=s.toks) (λ_ _ q=>JY _ q) (Kj _) (AR s.heap I.big),rfl,h _ (I.hok.fresh (Kj _))⟩
end
def nY:List (TE×TE)->St->Hp->(List (V×V)->Hp->Prop)->Prop
 | [],_,H,Q=>Q [] H
 | (tk,tv)::r,σ,H,Q=>tk σ H λx H1=>tv σ H1 λy H2=>nY r σ H2 λps H3=>Q ((x,y)::ps) H3
abbrev VV:List (V×V)->List (Value×Value)->Prop:=Paired λp q=>bF p.1 q.1/\bF p.2 q.2
def F5(X:Cx)(pos:Pos)(keys:List (Option Expr))(values:Lb)(trs:List (TE×TE)):Prop:=
 ∀(pins:KZ) (s:K1) (σ:St) (H:Hp) (Q:List (V×V)->Hp->Prop),Inv X pins σ H s->nY trs σ H Q ->
  wpAny (model X.prog X.w) X.A (evalPairs (pairTrees keys values X.env pos)) (λvs s'=>∃ps H',Inv X pins σ H' s'/\VV ps vs/\Q ps H') X.xe s
theorem Cf{X:Cx}{pos:Pos}:F5 X pos [] [] []:=λpins s σ H Q I h=>pairTrees_nil_walk ⟨[],H,I,.nil,h⟩
theorem zR{X:Cx}{pos:Pos}{k v:Expr}{ks:List (Option Expr)}{vs:Lb}{tk tv:TE}{trs:List (TE×TE)}(hk:PE X k tk)(hv:PE X v tv)(hr:F5 X pos ks vs trs) :
  F5 X pos (some k::ks) (v::vs) ((tk,tv)::trs):=λpins s σ H Q I h=>
 pairTrees_cons_walk (cq (hk pins s σ H _ I h) λu s1 ⟨x,H1,I1,rx,q1⟩=>cq (hv pins s1 σ H1 _ I1 q1) λw2 s2 ⟨y,H2,I2,ry,q2⟩=>
  cq (hr pins s2 σ H2 _ I2 q2) λws s3 ⟨ps,H3,I3,rel,q3⟩=>⟨(x,y)::ps,H3,I3,.cons ⟨rx,ry⟩ rel,q3⟩)
def nk(kvs more:List (cM×V)):List (cM×V):=more.foldl (λacc kv=>dw acc kv.1 kv.2) kvs
theorem KV.merge:∀{more:List (cM×V)} {rs:List (cM×Value)} {kvs:List (cM×V)} {vs:List (cM×Value)},KV more rs->KV kvs vs->KV (nk kvs more) (merged vs rs):=by
 intro more rs kvs vs r;unfold KV at r
 induction r generalizing kvs vs with
 |nil=>intro q;exact q
 | @cons p q ps qs h t ih=>
  intro a;have e:KV (dw kvs p.1 p.2) (stored vs q.1 q.2):=by
   have:=a.put p.1 h.2;rw[<- h.1];exact this
  exact ih e
theorem jy:∀(more kvs:List (cM×V)),(nk kvs more).length<=kvs.length+more.length
 | [],kvs=>by show kvs.length<=kvs.length+0;omega
 |p::r,kvs=>by
  have h1:=jy r (dw kvs p.1 p.2);have h2:=ge kvs p.1 p.2;show(nk (dw kvs p.1 p.2) r).length<=_;rw[J9];omega
theorem ng{P:K6}{w:K9}:∀{kvs:List (cM×V)} {ws:List (Value×Value)},VV (kvs.map λkv=>(kV kv.1,kv.2)) ws->∃rs,Carries (cj P w) ws rs/\KV kvs rs
 | [],_,r=>by rw[List.map_nil]at r;cases r;exact⟨[],True.intro,.nil⟩
 |p::kvs,_,r=>by
  rw[Kq]at r;cases r with
  | @cons a b as bs h t=>
   obtain⟨rs,c,q⟩:=ng (P:=P) (w:=w) t;obtain⟨b1,b2⟩:=b;exact⟨(p.1,b2)::rs,⟨m_ h.1,rfl,c⟩,.cons ⟨rfl,h.2⟩ q⟩
def BA(trs:List (TE×TE)):TE:=λσ H Q=>∀p,H p=none->nY trs σ (aD H p (.dK [])) λps H2=>H2 p=some (.dK [])/\∃kvs:List (cM×V),ps=kvs.map (λkv=>(kV kv.1,kv.2))/\kvs.length<=15/\Q (.ref p) (aD H2 p (.dK (nk [] kvs)))
theorem Cw{X:Cx}{pos:Pos}{keys:List (Option Expr)}{values:Lb}{trs:List (TE×TE)}(h:F5 X pos keys values trs)(hall:keys.all (·.isSome)=true)(hl:keys.length=values.length)(h0:keys≠[])
  (h15:keys.length<=15):PE X (.Dict keys values pos) (BA trs):=by
 intro b s σ H Q I q;have r:=I.hok.fresh (Kj s.heap.objs.size);have B:=I.laid (a:=s.heap.objs.size) (o:=.dK []) (h':=s.heap.push {cls:=.type "dict",data:=.dict #[]}) (t':=s.toks) (λ_ _ q=>JY _ q) (Kj _) (u0 s.heap I.big);refine wpAny_Dict_walk (knd:=cj X.prog X.w) hall hl h0 h15 (cq (h b _ σ _ _ B (q _ r)) λws s2 ⟨ps,H2,j,i,e,d,x,lk,m⟩=>?_);subst x;obtain⟨k,c,rk⟩:=ng (P:=X.prog) (w:=X.w) i;obtain⟨z,v,vs0,l,y⟩:=pY j.hok e;cases l;refine⟨k,c,y,λh' g p=>⟨.ref s.heap.objs.size,_,?_,rfl,m⟩⟩;have n:(nk [] d).length<=sizeLine:=by
  have h1:=jy d [];rw[List.length_nil]at h1;rw[q0W];omega
 have u:∃q,h'.get? s.heap.objs.size=some q:=let ⟨q,_,_,hq,_⟩:=g;⟨q,hq⟩
 exact mX j (by rw[e];exact True.intro) p u (vF n v (rk.merge .nil) g)
structure M1(X:Cx)(o:Expr)(m:Str)(apos:Pos)(e:Expr)(cpos:Pos):Prop where
 base:attributeBase o m X.env (eval o X.env)=eval o X.env
 few:((backTo cpos (starEach [e] X.env)).all (λx=>!x.1)&&(backToKw cpos (keywordEach [] X.env)).all (λx=>x.1.isSome)
  && decide (([e]:List Expr).length+([]:List Keyword).length+(if([]:List Keyword).isEmpty then 0 else 1)<30))=true
 line:(apos.endLine==cpos.line)=true
 trees:backTo cpos (starEach [e] X.env)=[(false,eval e X.env)]
structure M2(X:Cx)(o:Expr)(m:Str)(apos:Pos)(e f:Expr)(cpos:Pos):Prop where
 base:attributeBase o m X.env (eval o X.env)=eval o X.env
 few:((backTo cpos (starEach [e,f] X.env)).all (λx=>!x.1)&&(backToKw cpos (keywordEach [] X.env)).all (λx=>x.1.isSome)
  && decide (([e,f]:List Expr).length+([]:List Keyword).length+(if([]:List Keyword).isEmpty then 0 else 1)<30))=true
 line:(apos.endLine==cpos.line)=true
 trees:backTo cpos (starEach [e,f] X.env)=[(false,eval e X.env),(false,eval f X.env)]
def Hg(H:Hp)(a:Addr):Prop:=(∃kvs,Rd H a (.dK kvs))\/∃kvs,Rd H a (.dT kvs)
theorem BB{X:Cx}{pins:KZ}{σ:St}{H:Hp}{s:K1}{a:Addr}(I:Inv X pins σ H s)(d:Hg H a) :
  s.TypeIs (.ref a) "dict"/\(∀b,Value.ref a=.ref b->∃ob,s.heap.get? b=some ob/\ob.dict=none)/\(a==sysModules)=false:=by
 rcases d with⟨g,e⟩ | ⟨g,e⟩
 ·obtain⟨_,i,vs,_,c⟩:=nG I.hok e
  refine⟨c.typeIs,λb q=>?_,i⟩;cases q;obtain⟨ob,_,_,h1,h2,_⟩:=c;exact⟨ob,h1,h2.2.1⟩
 ·obtain⟨_,i,xs,_,c⟩:=qE I.hok e
  refine⟨c.typeIs,λb q=>?_,i⟩;cases q;obtain⟨ob,_,_,h1,h2,_⟩:=c;exact⟨ob,h1,h2.2.1⟩
end L2
namespace Att
open PySem PySem.W PySem.Calls PyProof.Rows
theorem mG{P:Params}{h:Heap}:∀(ns:List Int) (vs:K2),WellAll P h vs (ns.map WData.int)->IntsAre vs ns:=by
 intro ns
 induction ns with
 |nil=>
  intro vs w;rw[List.map_nil]at w;cases w;exact .nil
 |cons n ns ih=>
  intro vs w;rw[Kq]at w;cases w with
  |cons a b=>
   cases a;exact .cons _ _ (ih _ b)
theorem xY{l:OpenLaw}{n:Nat}(hn:l.most=some n){P:Params}{h:Heap}{args:List WData}{vals:K2}
  (hpre:l.row.toRowW.claim.pre args=true) (hwl:WellAll P h vals args) :
  ∃a vs ns,vals=[Value.ref a]/\args=[WData.list (ns.map WData.int)]/\h.get? a=some {cls:=.type "list",data:=.seq vs.toArray}/\IntsAre vs ns/\ns.length<=n:=by
 have g:WShape.hasAll [] args [.list .int]=true:=(pre_splitW hpre).1;have i:l.pre.holds [] {args:=args}=true:=(pre_splitW hpre).2;obtain⟨d,r,rfl,h1,h2⟩:=hasAllW_cons g;obtain rfl:=hasAllW_nil h2;obtain⟨xs,rfl,k⟩:=hasW_list h1;obtain⟨ns,rfl⟩:=items_int k;have b:ns.length<=n:=by
  unfold OpenLaw.pre at i;have e:(WTm.not (.lt (.lit (.int (n:Int))) (.len (.arg 0)))).holds [] {args:=[.list (ns.map .int)]}=true:=by
   have e:=(holds_andW i).1;rw[hn]at e;exact e
  have c:=condW_of e (w_not (w_lt w_lit (w_len_list (w_arg rfl))));rw[JZ]at c;refine Nat.le_of_not_lt λq=>?_;have j:(n:Int)<((ns.length:Nat):Int):=by omega
  first
   | (rw[q09 j]at c;exact q0Q c (by decide))
   | (simp at c;omega)
 cases hwl with
 |cons w1 w2=>
  cases w2;cases w1 with
  |list ho hall=>exact⟨_,_,ns,rfl,rfl,ho,mG ns _ hall,b⟩
theorem yd(l:OpenLaw)(args:List WData):l.row.toRowW.claim.post args (.bool true) args=true:=
 postW_of (r:=l.row.toRowW) (X:=(true==true))
  (show WShape.has [] (.bool true) .bool=true by first | rfl | decide | simp[WShape.has,WShape.arms,WShape.armsAll])
  (show(WTm.eq .res (.lit (.bool true))).value [] {args:=args,res:=some (.bool true),after:=args}=some (.bool (true==true)) from w_eq_bool (w_res rfl) w_lit) rfl
theorem attach_call{l:OpenLaw}{n:Nat}{q:K6}{loose:K7}{XP:(Str->Option Value)->Heap->Prop}{YP:World->Heap->Prop}{d:DefRec}
  (hn:l.most=some n) (hdf:d.params.defaults=[])
  (call:∀(w:K9) (s₀ s₁:K1) (mg mb:K4) (fa:Addr) (o:Obj) (pm cd doc:Value) (a:Addr) (vs:K2) (ns:List Int),
   Ground q loose [] XP w s₀ mg mb s₁.heap->YP w s₁.heap ->
   s₁.heap.get? fa=some o->o.data=.func (docDef d.name d.params d.body d.scope pm cd doc)->s₁.heap.CodeRec cd d.name->mg d.name=some (.ref fa) ->
   s₁.heap.get? a=some {cls:=.type "list",data:=.seq vs.toArray}->IntsAre vs ns->ns.length<=n->s₁.gens=#[] ->
   codeAny (model l.prog w) callerA (.call (.ref fa) ⟨[.ref a],[]⟩) (λr s'=>r=.ok (.ret (.bool true))/\OldK s₁.heap s'.heap/\s'.os=s₁.os/\AllBare s'.gens) s₁) :
  WalkO q loose XP YP l.row.toRowW d [] (λf vs=>PySem.call f vs):=by
 intro w s₀ s₁ mg mb G Y fa o pm cd doc C kV u y k m j x args vals as c hlay hrd i hlo;obtain rfl:C=.none:=Dflts.none m hdf;obtain rfl:kV=.none:=Dflts.noKw m;obtain⟨a,vs,ns,rfl,rfl,e,b,g⟩:=xY hn c i;refine enter_call (codeAny_mono (call w s₀ s₁ mg mb fa o pm cd doc a vs ns G Y u (fd_plain y) k j e b g x) λr s' p=>?_);obtain⟨rfl,h2,B,z⟩:=p;exact⟨.inl ⟨.bool true,.bool true,[],rfl,λ_=>rfl,.bool true,yd l _,λ_=>⟨List.Pairwise.nil,λ_ v=>(nomatch v)⟩⟩,h2,B,z⟩
section
variable {prog:K6}{w:K9}{A:K8}{E:KW}{s:K1}{K:Frag}
end
end Att
namespace L2
open PySem PySem.Spec PyProof.Rows
theorem qF:∀{vs:K2} {ns:List Int},IntsAre vs ns->bp (ns.map V.int) vs
 |_,_,.nil=>.nil
 |_,_,.cons n t h=>.cons ⟨t,rfl⟩ (qF h)
def EK(H:Hp):Prop:=∀b,H b=none\/∃o xs,H b=some (.frz o (.lst xs))
theorem Bu{P:K6}{w:K9}{K:KY}{mg mb:K4}{CX:j4}{k:Nat}{fa a:Addr}{fd:K5}{x:Str}{sp:Sp}{s₁:K1}{vs:K2}{ns:List Int}
  (KX:K.In s₁.heap) (hns:s₁.heap.Ns mainGlobals mg) (hb:s₁.heap.Ns builtinsNs mb) (hbb:∀x:Str,x≠"__name__"->mb x=bootBuiltins x) (hlim:s₁.heap.NoLimit) (hg:s₁.gens=#[])
  (ha:s₁.heap.get? a=some {cls:=.type "list",data:=.seq vs.toArray}) (hi:IntsAre vs ns) (hl:ns.length<=sizeLine) (hr:c3 k callerA)
  (F:∀base:Heap,K.In base->base.Ns mainGlobals mg->br P w K mg base CX k fa fd [x] sp) (hbind:∀(s:K1) (u:Value),BindsTo s fd ⟨[u],[]⟩ [(x,u)])
  (hsp:∀H:Hp,EK H->aN K H a (ns.map V.int)->sp [.ref a] H (λv _=>v=.bl true) λ_ _ _=>False)
  (hCX:∀H e s',CX [] H s₁ (λ_ _ _=>False) e s'->False) :
  codeAny (model P w) callerA (.call (.ref fa) ⟨[.ref a],[]⟩) (λr s'=>r=.ok (.ret (.bool true))/\OldK s₁.heap s'.heap/\s'.os=s₁.os/\AllBare s'.gens) s₁:=by
 have J:=qF hi;have l:=hi.length
 -- from an abstract heap in which nothing but the script may be tracked
 have i:∀H:Hp,EK H->aN K H a (ns.map V.int)->jf P w H s₁.heap->(∀b,H b≠none->b=a)->(H a≠none->K.lookup a=none) ->
   codeAny (model P w) callerA (.call (.ref fa) ⟨[.ref a],[]⟩) (λr s'=>r=.ok (.ret (.bool true))/\OldK s₁.heap s'.heap/\s'.os=s₁.os/\AllBare s'.gens) s₁:=by
  intro H L Y y M hK;have c:∀{b:Addr} {o:Obj},s₁.heap.get? b=some o->H b=none->(r9 s₁.heap H).get? b=some o:=λe n=>zX e n;have D:∀{b:Addr} {o:Obj} {es:Array DictEntry} {ep:Nat},s₁.heap.get? b=some o->o.data=.dict es ep->H b=none:=fun{b o es ep} e d=>by
   cases q:H b with
   |none=>rfl
   |some u=>
    have I:b=a:=M b (by rw[q];simp);subst I;rw[ha]at e;cases e
    have d':Data.seq vs.toArray _=Data.dict es ep:=d;cases d'
  have g:∀{b:Addr} {m:K4},s₁.heap.Ns b m->(r9 s₁.heap H).Ns b m:=fun{b m} ⟨o,es,ep,e,d,r⟩=>⟨o,es,ep,c e (D e d),d,r⟩;have B:K.In (r9 s₁.heap H):=λb o e=>c (KX b o e) (by
   cases q:H b with
   |none=>rfl
   |some u=>
    have I:b=a:=M b (by rw[q];simp);subst I;rw[hK (by rw[q];simp)]at e;cases e)
  have Z:Mod K mg (r9 s₁.heap H):=⟨B,g hns,⟨mb,g hb,hbb⟩,let ⟨mc,h1,h2⟩:=hlim;⟨mc,g h1,h2⟩⟩;have e0:oh P w K mg (r9 s₁.heap H) callerA [] s₁ H:=⟨rfl,Z,λb o e=>Dc e,Nat.le_of_eq (yx _ _),trivial,λb hb=>q0Q (show b∈([]:List Addr) from hb) (by simp),y,.of_eq hg⟩;refine codeAny_mono ((F _ B (g hns)).run callerA [] s₁ H ⟨[.ref a],[]⟩ [.ref a] [.ref a] _ _ hr e0 (hbind s₁ (.ref a)) (.cons rfl .nil) (hsp H L Y)) λr s' h=>?_;cases r with
  |error e=>exact(hCX H e s' h).elim
  |ok fl=>
   cases fl with
   |next=>exact False.elim h
   |brk=>exact False.elim h
   |cont=>exact False.elim h
   |ret u=>
    obtain⟨v,H',os,C,un,p,S,q⟩:=h;have T:v=.bl true:=q;subst T;obtain rfl:u=Value.bool true:=S;refine⟨rfl,OldK.of_keep λb o e=>?_,os,C⟩;cases q:H b with
    |none=>exact un.keep b o e q (by intro z;exact q0Q (show b∈([]:List Addr) from z) (by simp)) (by simp)
    |some u=>
     rcases L b with z | ⟨U,xs,z⟩
     ·rw[q]at z;cases z
     ·have R:=un.frzs b U _ z
      obtain⟨O,_⟩:=y b _ z;obtain⟨e2,_⟩:=p b _ R;rw[e]at O;cases O
      exact e2
 cases G:K.lookup a with
 |some o=>
  -- the script is one of the module's own objects
  have e:=KX a o G;rw[ha]at e;cases e;refine i (λ_=>none) (λ_=>.inl rfl) (.inr ⟨_,vs.toArray,_,G,rfl,rfl,rfl,by rw[J5,l];exact hl,by simpa using J⟩) (λb u z=>by have j:(none:Option HO)=some u:=z;cases j) (λb z=>q0Q rfl z) λz=>q0Q rfl z
 |none=>
  refine i (λb=>if b=a then some (.frz {cls:=.type "list",data:=.seq vs.toArray} (.lst (ns.map V.int))) else none) (λb=>?_) (.inl (.inr ⟨{cls:=.type "list",data:=.seq vs.toArray},q07 rfl⟩)) (λb u z=>?_) (λb z=>?_) λ_=>G
  ·by_cases hb:b=a
   ·exact .inr ⟨_,_,q07 hb⟩
   ·exact .inl (q06 hb)
  ·by_cases hb:b=a
   ·have j:=(q07 hb).symm.trans z
    cases j;subst hb;exact⟨ha,by rw[JZ];exact hl,vs,_,J,ha⟩
   ·have j:=(q06 hb).symm.trans z
    cases j
  ·by_cases hb:b=a
   ·exact hb
   ·exact q0Q (q06 hb) z
theorem walk_of{l:PySem.W.OpenLaw}{n k:Nat}{q:K6}{loose:K7}{XP:(Str->Option Value)->Heap->Prop}{YP:World->Heap->Prop}{d:DefRec}{K:Params->PySem.W.Frag}{CX:World->j4}{sp:World->Sp}{x:Str}
  (hn:l.most=some n) (hn2:n<=sizeLine) (hdf:d.params.defaults=[]) (hr:c3 k callerA)
  (hY:∀(w:K9) (h:Heap),YP w h->(K w.params).In h)
  (F:∀(w:K9) (mg:K4) (fa:Addr) (h:Heap),(K w.params).In h->h.Ns mainGlobals mg->mg d.name=some (.ref fa) ->
   ∃fd:FuncData,(∀(s:K1) (u:Value),BindsTo s fd ⟨[u],[]⟩ [(x,u)]) /\
    ∀base:Heap,(K w.params).In base->base.Ns mainGlobals mg->br l.prog w (K w.params) mg base (CX w) k fa fd [x] (sp w))
  (hsp:∀(w:K9) (H:Hp) (a:Addr) (ns:List Int),ns.length<=n->EK H->aN (K w.params) H a (ns.map V.int)->sp w [.ref a] H (λv _=>v=.bl true) λ_ _ _=>False)
  (hCX:∀(w:K9) (H:Hp) (s:K1) (e:Value) (s':K1),CX w [] H s (λ_ _ _=>False) e s'->False) :
  PySem.W.WalkO q loose XP YP l.row.toRowW d [] (λf vs=>PySem.call f vs):=by
 refine Att.attach_call hn hdf λw s₀ r mg mb fa o pm cd doc a vs ns G Y ho hd hcd m j i c y=>?_;have p:=hY w _ Y;obtain⟨fd,z,D⟩:=F w mg fa _ p G.T.g m;exact Bu p G.T.g G.T.b G.T.builtins G.T.nolimit y j i (Ks c hn2) hr D z (λH C B=>hsp w H a ns c C B) λH e s'=>hCX w H r e s'
def dN(s:Stmt):Arguments:=match s with
 | .FunctionDef _ a _ _ _ _ _ _ _ _=>a
 |_=>{posonlyargs:=[],args:=[],vararg:=none,kwonlyargs:=[],kw_defaults:=[],kwarg:=none,defaults:=[]}
def du(s:Stmt):List Stmt:=match s with
 | .FunctionDef _ _ b _ _ _ _ _ _ _=>b
 |_=>[]
def av(s:Stmt):Scope:=match s with
 | .FunctionDef _ _ _ _ _ _ sc _ _ _=>sc
 |_=>{kind:=.function,names:=[],isGenerator:=false,isCoroutine:=false}
abbrev bD:j4:=λ_ _ _ _ _ _=>False
abbrev E0:XK:=λ_ _ _=>False
theorem aJ{X:Cx}:dy bD X E0:=λ_ _ _ _ _ _ _ h=>h.elim
structure dr(K:KY)(x qual:Str)(st:Stmt)(f:Addr)(fd:K5):Prop where
 ex:∃(oc:Value) (od:La) (kV doc pm:Value) (an:La) (cdv ct:Value) (osl:Array (Option Value)),
  fd=PySem.W.fnOf x qual (dN st) (du st) (av st) .none kV doc pm an cdv ct/\K.lookup f=some ⟨oc,od,.func fd,osl⟩/\PySem.W.codeIn K cdv qual=true
 kp:PySem.W.keepIn K (.ref f)=true
section
variable {P:K6}{w:K9}{K:KY}{mg:K4}{base:Heap}
theorem dr.ok{x qual:Str}{st:Stmt}{f:Addr}{fd:K5}{N ps:K7}{k:Nat}{sp:Sp}(F:dr K x qual st f fd)(S:aE N ps (av st))(len:∀vs H Q E,sp vs H Q E->vs.length=ps.length)
  (hbody:∀(cdv:Value) (A:K8) (outer:List Env) (s:K1) (H:Hp) (vs:List V) (Q:VK) (E:XK),c3 k (A.deeper (envOfC qual (av st) s.heap.objs.size f cdv))->sp vs H Q E ->
   ∃t,wJ (tO bD P w K mg base N qual (av st) f cdv A outer s H E).nox (du st) t/\t {nx:=λ_ H'=>Q .non H',rt:=Q} (start N vs) H):br P w K mg base bD (k+1) f fd ps sp:=by
 obtain⟨oc,od,kV,doc,pm,an,cdv,ct,osl,rfl,c,b⟩:=F.ex;refine Fi c b S len λA outer s H vs Q E hr a=>?_;obtain⟨t,h,q⟩:=hbody cdv A outer s H vs Q E hr a;exact⟨t,h.nox,q⟩
theorem dr.binds{x qual:Str}{st:Stmt}{f:Addr}{fd:K5}{ps:K7}(F:dr K x qual st f fd)
  (h:∀(kV doc pm:Value) (an:La) (cdv ct:Value) (us:K2),us.length=ps.length->bindArgs (PySem.W.fnOf x qual (dN st) (du st) (av st) .none kV doc pm an cdv ct) ⟨us,[]⟩=pure (ps.zip us)):dL K fd ps []:=by
 obtain⟨oc,od,kV,doc,pm,an,cdv,ct,osl,rfl,lk,hcd⟩:=F.ex;exact .all (h kV doc pm an cdv ct)
theorem cZ{x qual:Str}{st:Stmt}{f:Addr}{oc:Value}{od an:La}{osl:Array (Option Value)}{kV doc pm cdv ct:Value}(l:K.lookup f=some ⟨oc,od,.func (PySem.W.fnOf x qual (dN st) (du st) (av st) .none kV doc pm an cdv ct),osl⟩)
  (c:PySem.W.codeIn K cdv qual=true) (k:PySem.W.keepIn K (.ref f)=true):dr K x qual st f (PySem.W.fnOf x qual (dN st) (du st) (av st) .none kV doc pm an cdv ct):=⟨⟨oc,od,kV,doc,pm,an,cdv,ct,osl,rfl,l,c⟩,k⟩
end
section
variable {X:Cx}
theorem pv(i:Nat){x:Str}{pos:Pos}(hN:autoParam (X.N[i]?=some x) zz0._auto_1)(hv:autoParam (F_ X.env.scope x) zz6._auto_1)(hd:autoParam ((x==("__debug__":Str))=false) zz1._auto_1)
  (hcd:autoParam ((x==("__classdict__":Str))=false) zz1._auto_1):PE X (.Name x pos) (Bv i):=EF hN hv hd hcd
theorem zb:eQ X (.builtin "len") (λxs H Q=>∃a kvs,xs=[V.ref a]/\H a=some (.dK kvs)/\Q (.int kvs.length) H):=by
 intro pins s σ H xs us Q I r h;obtain⟨a,kvs,rfl,c,q⟩:=h;obtain⟨u,rfl,b⟩:=nB r;cases b;exact Fh I (.inl c) λt s' d=>⟨.int kvs.length,H,d,⟨t,rfl⟩,q⟩
end
def aB(H H':Hp):Prop:=∀b o,H b=some o->H' b=some o
theorem aB.refl(H:Hp):aB H H:=λ_ _ h=>h
theorem aB.trans{H H1 H2:Hp}(a:aB H H1)(b:aB H1 H2):aB H H2:=λc o h=>b c o (a c o h)
theorem aB.free{H H':Hp}(e:aB H H'){l:Addr}(h:H' l=Option.none):H l=Option.none:=by
 cases q:H l with
 |none=>rfl
 |some o=>
  rw[e l o q]at h;cases h
theorem aB.seq{K:KY}{H H':Hp}{a:Addr}{xs:List V}(e:aB H H')(h:aN K H a xs):aN K H' a xs:=by
 rcases h with(h | ⟨o,h⟩) | h
 ·exact .inl (.inl (e _ _ h))
 ·exact .inl (.inr ⟨o,e _ _ h⟩)
 ·exact .inr h
section
variable {κ:Type}[DecidableEq κ]
theorem AA{kvs:List (κ×V)}{k:κ}(h:dM kvs k=none):¬ k∈kvs.map (·.1):=by
 intro m;obtain⟨p,b,e⟩:=KI.mp m;have q:(kvs.any λa=>decide (a.1=k))=true:=List.any_eq_true.mpr ⟨p,b,q09 e⟩;rw[gy,h]at q;exact q0Q q (by simp)
end
end L2
namespace PySem
open Sem (wp)
open Builtin Builtin.Str Builtin.Int
namespace F
theorem kQ:Manifest.owners.lookup "reversed"=some Manifest.sig_reversed:=by kernel_rfl
theorem slot_rvs_next:Slot "reversed" "__next__" "reversed.__next__":=
 .of (owner:="reversed") (n:="__next__") (by rw[typeLookup_type,builtinLookup_eq_fast];kernel_rfl) (by decide +kernel) (by decide +kernel) (by decide +kernel)
  (by first | exact .inl (by decide +kernel) | exact .inr (by decide +kernel)) (by rw[isSubtype_type];kernel_rfl)
theorem entry_rvs_next:entryFor table "reversed.__next__"=some Builtin.«reversed.__next__»:=entryFor_of_tree (by kernel_rfl)
theorem slot_rvs_iter:Slot "reversed" "__iter__" "reversed.__iter__":=
 .of (owner:="reversed") (n:="__iter__") (by rw[typeLookup_type,builtinLookup_eq_fast];kernel_rfl) (by decide +kernel) (by decide +kernel) (by decide +kernel)
  (by first | exact .inl (by decide +kernel) | exact .inr (by decide +kernel)) (by rw[isSubtype_type];kernel_rfl)
theorem nolen_rvs:typeLookup (.type "reversed") "__len__"=pure none:=by rw[typeLookup_type,builtinLookup_eq_fast];kernel_rfl
theorem hint_rvs:typeLookup (.type "reversed") "__length_hint__"=pure (some (.builtin "reversed.__length_hint__")):=by rw[typeLookup_type,builtinLookup_eq_fast];kernel_rfl
theorem args_rvs_next_1(a:Value):argsOk "reversed.__next__" ⟨[a],[]⟩:=by
 unfold argsOk;rw[signature?_of (id:="reversed.__next__") (n:=['_','_','t','x','e','n','_','_']) (o:=['d','e','s','r','e','v','e','r']) (by kernel_rfl) kQ];kernel_rfl
theorem args_rvs_iter_1(a:Value):argsOk "reversed.__iter__" ⟨[a],[]⟩:=by
 unfold argsOk;rw[signature?_of (id:="reversed.__iter__") (n:=['_','_','r','e','t','i','_','_']) (o:=['d','e','s','r','e','v','e','r']) (by kernel_rfl) kQ];kernel_rfl
theorem entry_rvs_iter:entryFor table "reversed.__iter__"=some Builtin.«dict_keyiterator.__iter__»:=
 entryFor_alias (id':="dict_keyiterator.__iter__") (by kernel_rfl) (by first | rfl | decide +kernel | (unfold String.splitOn;simp +decide [String.splitOnAux])) (by decide +kernel) (by kernel_rfl)
theorem slot_rvs_hint:Slot "reversed" "__length_hint__" "reversed.__length_hint__":=
 .of (owner:="reversed") (n:="__length_hint__") (by rw[typeLookup_type,builtinLookup_eq_fast];kernel_rfl) (by decide +kernel) (by decide +kernel) (by decide +kernel)
  (by first | exact .inl (by decide +kernel) | exact .inr (by decide +kernel)) (by rw[isSubtype_type];kernel_rfl)
theorem entry_rvs_hint:entryFor table "reversed.__length_hint__"=some Builtin.«reversed.__length_hint__»:=entryFor_of_tree (by kernel_rfl)
theorem args_rvs_hint_1(a:Value):argsOk "reversed.__length_hint__" ⟨[a],[]⟩:=by
 unfold argsOk;rw[signature?_of (id:="reversed.__length_hint__") (n:=['_','_','t','n','i','h','_','h','t','g','n','e','l','_','_']) (o:=['d','e','s','r','e','v','e','r']) (by kernel_rfl) kQ];kernel_rfl
end F
section
variable {prog:K6}{w:K9}{A:K8}{E:KW}{s:K1}
def vT(x:Str)(t:Tok)(i:Int):Obj:={cls:=.type "reversed",data:=.fields #[.str x t,rawInt i]}
def Heap.IsRvs(h:Heap)(a:Addr)(x:Str)(t:Tok)(i:Int):Prop:=∃o,h.get? a=some o/\o.cls=.type "reversed"/\o.data=.fields #[.str x t,rawInt i]
theorem Heap.IsRvs.typeIs{a:Addr}{x:Str}{t:Tok}{i:Int}(y:s.heap.IsRvs a x t i):s.TypeIs (.ref a) "reversed":=let ⟨o,ho,hc,_⟩:=y;⟨o,ho,hc⟩
theorem Heap.IsRvs.at{h h':Heap}{a:Addr}{x:Str}{t:Tok}{i:Int}(y:h.IsRvs a x t i)(e:∀o,h.get? a=some o->h'.get? a=some o):h'.IsRvs a x t i:=let ⟨o,ho,r⟩:=y;⟨o,e _ ho,r⟩
theorem iB{it:Addr}{x:Str}{t:Tok}{i c:Nat}{Q:Option Value->Shared->Prop}(hit:s.heap.IsRvs it x t (i:Int))(hx:x.cps[i]?=some c)(hsz:i<2 ^ 63)
  (hQ:∀h' tk tk',h'.IsRvs it x t ((i:Int)-1)->Heap.SameBut it s.heap h'->Q (some (.str ⟨#[c]⟩ tk)) {s with heap:=h',toks:=tk' }):wpAny (model prog w) A (pyNext (.ref it)) Q E s:=by
 obtain⟨o,d,k,b⟩:=id hit;have g:i<x.length:=(Array.getElem?_eq_some_iff.mp hx).1;unfold pyNext;refine q04 (wpAny_attempt (wpAny_callSpecial?_slot (name:=Str.ofString "__next__") hit.typeIs F.slot_rvs_next
  (wpAny_call_entry F.slot_rvs_next hit.typeIs F.entry_rvs_next ?_ (F.args_rvs_next_1 _))))
 unfold Builtin.«reversed.__next__»;refine q04 (wpAny_of_eq (a:=(Value.ref it,[])) rfl ?_)
 try dsimp only
 refine q04 (wpAny_field d b (x:=.str x t) rfl ?_);refine q04 (wpAny_field d b (x:=rawInt (i:Int)) rfl ?_);show wpAny _ _ (if(i:Int)<0 then _ else _) _ _ s;rw[q06 ⋯];refine q04 (wpAny_specialOf (typeIs_str s x t) F.slot_str_getitem.lookup ?_)
 try dsimp only
 first
 |rw[q06 (show ¬ ((some (Value.builtin "str.__getitem__")).isNone=true) from Kl)]
 |skip
 refine q04 (wpAny_mkInt ?_);refine q04 (wpAny_attempt ?_);have l:(seqIndex? (i:Int) x.length).bind (x.cps[·]?)=some c:=by
  have e:seqIndex? (i:Int) x.length=some i:=by
   have j:¬ ((i:Int)<0):=by omega
   unfold seqIndex?;simp[j,g]
  rw[e];exact hx
 refine P.getItem_str (c:=c) (by simp;omega) l ?_;dsimp only;refine q04 (wpAny_field d b (x:=rawInt (i:Int)) rfl ?_);show wpAny _ _ (setField (Value.ref it) 1 (rawInt ((i:Int)-1)) >>= λ_=>ret (Value.str ⟨#[c]⟩ _)) _ _ _;refine q04 (wpAny_setField d b (by simp) ?_);refine q05 ⟨_,rfl,q05 (hQ _ _ _ ?_ (Heap.SameBut.update ..))⟩;exact⟨_,J8 _ d (Obj.isFreed_of_fields (Obj.data_mapFields b _)),(Obj.cls_mapFields ..).trans k,by
  rw[Obj.data_mapFields b];simp⟩
theorem iR{it:Addr}{x:Str}{t:Tok}{Q:Option Value->Shared->Prop}(hh:A.handled=none)(hit:s.heap.IsRvs it x t (-1))
  (hQ:∀h',Heap.ExtBut it s.heap h'->Q none {s with heap:=h' }):wpAny (model prog w) A (pyNext (.ref it)) Q E s:=by
 obtain⟨o,d,hc,c⟩:=id hit;unfold pyNext;refine q04 (wpAny_attempt (wpAny_callSpecial?_slot (name:=Str.ofString "__next__") hit.typeIs F.slot_rvs_next
  (wpAny_call_entry F.slot_rvs_next hit.typeIs F.entry_rvs_next ?_ (F.args_rvs_next_1 _))))
 unfold Builtin.«reversed.__next__»;refine q04 (wpAny_of_eq (a:=(Value.ref it,[])) rfl ?_)
 try dsimp only
 refine q04 (wpAny_field d c (x:=.str x t) rfl ?_);refine q04 (wpAny_field d c (x:=rawInt (-1)) rfl ?_);show wpAny _ _ (if(-1:Int)<0 then _ else _) _ _ s;rw[q07 (by decide)];refine q04 (wpAny_rule ?_);show wpAny _ _ ((setField (Value.ref it) 1 (rawInt (-1)) >>= λ_=>setField (Value.ref it) 0 .none) >>= _) _ _ _;refine q04 (q04 (wpAny_setField d c (by simp) ?_));have e:=J8 (Obj.mapFields (·.setIfInBounds 1 (rawInt (-1)))) d (Obj.isFreed_of_fields (Obj.data_mapFields c _));refine wpAny_setField e (Obj.data_mapFields c _) (by simp) ?_;dsimp only;show wpAny _ _ (SmallTypes.stopIteration >>= _) _ _ _;refine q04 ?_;unfold SmallTypes.stopIteration
 first
 |show wpAny _ _ (newExc (.type "StopIteration") [] >>= _) _ _ _
 | (refine q04 ?_;show wpAny _ _ (newExc (.type "StopIteration") [] >>= _) _ _ _)
 refine q04 ?_;simp only[newExc,newTuple];refine q04 (wpAny_newObj_type ?_ (by size_fits));refine q04 (m:=firstArgMember _ _) (wpAny_of_eq (a:=Value.none) (by first | rfl | (simp only[firstArgMember];rfl)) ?_);refine wpAny_newObj_type ?_ (by size_fits);simp only[raiseNew];refine q04 (wpAny_handled ?_)
 first | rw[show A.in1.handled=none from hh] | rw[hh]
 refine q04 (q05 (wpAny_throw ?_));refine q04 (wpAny_isInstance (T:="StopIteration") (b:=true) ⟨_,J4 _ rfl,rfl⟩ isSubtype_stop ?_);refine q05 (hQ _ ?_);intro b ob g i;exact JY _ (JY _ ((J3 _ _ (Ne.symm g)).trans ((J3 _ _ (Ne.symm g)).trans i)))
theorem gO{it:Addr}{x:Str}{t:Tok}{i:Int}{Q:KW}(hit:s.heap.IsRvs it x t i)(h:Q (.ref it) s):wpAny (model prog w) A (pyIter (.ref it)) Q E s:=by
 refine wpAny_pyIter_slot hit.typeIs F.slot_rvs_iter (wpAny_call_entry F.slot_rvs_iter hit.typeIs F.entry_rvs_iter ?_ (F.args_rvs_iter_1 _));show wpAny _ _ (ret (.ref it)) _ _ s;exact q05 ⟨_,rfl,"reversed",_,hit.typeIs,F.slot_rvs_next.lookup,h⟩
theorem hint_rvs{it:Addr}{x:Str}{t:Tok}{i:Int}{Q:KW}(hit:s.heap.IsRvs it x t i)(hi:i<x.length)(hz:x.length<=sizeLine)
  (h:∀u tk,s.toks<=tk->Q (.int (i+1) u) {s with toks:=tk}):wpAny (model prog w) A (call (.builtin "reversed.__length_hint__") [.ref it]) Q E s:=by
 obtain⟨o,b,hc,c⟩:=id hit;refine wpAny_call_entry F.slot_rvs_hint hit.typeIs F.entry_rvs_hint ?_ (F.args_rvs_hint_1 _);unfold Builtin.«reversed.__length_hint__»;refine q04 (wpAny_of_eq (a:=Value.ref it) rfl ?_);refine q04 (wpAny_field b c (x:=.str x t) rfl ?_);show wpAny _ _ (if(Value.str x t==Value.none)=true then _ else _) _ _ s;rw[q06 (show ¬ ((Value.str x t==Value.none)=true) from λz=>by cases(eq_of_beq z))];have hs:sizeLine=16777216:=q0W;refine q04 (P.len_str ⋯ ?_);refine q04 (m:=asInt? _) (q05 ?_);dsimp only;refine q04 (wpAny_field b c (x:=rawInt i) rfl ?_);show wpAny _ _ (if(x.length:Int)<i+1 then _ else _) _ _ _;rw[q06 ⋯];show wpAny _ _ (mkInt (i+1) >>= λv=>ret v) _ _ _;exact q04 (wpAny_mkInt (q05 ⟨_,rfl,h _ _ (by simp;omega)⟩))
theorem Walks.rvs{A:K8}(hh:A.handled=none)(I:Addr)(x:Str)(t:Tok)(hz:x.length<=sizeLine) :
  Walks prog w A I [I] [I] x.length (λi v=>∃c tk,x.cps[x.length-1-i]?=some c/\v=.str ⟨#[c]⟩ tk) (λi h=>i<=x.length/\h.IsRvs I x t ((x.length:Int)-1-(i:Int))) where
 sub:=λb hb=>hb
 frame:=λ_ _ _ y hk=>⟨y.1,y.2.at λo e=>hk I (by simp) o e⟩
 item:=λi s Q E hi y hQ=>by
  have e:(x.length:Int)-1-(i:Int)=((x.length-1-i:Nat):Int):=by omega
  have a:=y.2;rw[e]at a;have hb:x.length-1-i<x.cps.size:=by have:x.length=x.cps.size:=rfl;omega
  have n:x.cps[x.length-1-i]?=some (x.cps[x.length-1-i]'hb):=Array.getElem?_eq_getElem hb;have hs:sizeLine=16777216:=q0W;refine iB a n ⋯ λl tk g d j=>?_;have p:((x.length-1-i:Nat):Int)-1=(x.length:Int)-1-((i+1:Nat):Int):=by omega
  rw[p]at d;exact hQ _ l g ⟨_,tk,n,rfl⟩ ⟨hi,d⟩ λb o hb m=>j.extBut b o (λh=>hb (by simp[h])) m
 done:=λs Q E y hQ=>by
  have e:(x.length:Int)-1-(x.length:Int) = -1:=by omega
  have a:=y.2;rw[e]at a;exact iR hh a λl k=>hQ l s.toks λb o hb m=>k b o (λh=>hb (by simp[h])) m
 self:=λ_ _ _ _ y hQ=>gO y.2 hQ
theorem kE{I:Addr}{x:Str}{t:Tok}{Q:List Value->Shared->Prop}(hh:A.handled=none)(hit:s.heap.IsRvs I x t ((x.length:Int)-1))(hz:x.length<=sizeLine)
  (hQ:∀s' acc,Moved [I] (λa b=>b=a) s s'->ItemsOf (λi v=>∃c tk,x.cps[x.length-1-i]?=some c/\v=.str ⟨#[c]⟩ tk) acc x.length->Q acc.toList s'):wpAny (model prog w) A (collect (.ref I)) Q E s:=by
 have W:=(Walks.rvs (prog:=prog) (w:=w) (A:=A.in1) hh I x t hz).toS;have hn:x.length<=sizeLine:=hz;have hst:(λi (s:K1)=>i<=x.length/\s.heap.IsRvs I x t ((x.length:Int)-1-(i:Int))) 0 s:=⟨Kk _,by simpa using hit⟩;have hT:∀i (s:K1),(i<=x.length/\s.heap.IsRvs I x t ((x.length:Int)-1-(i:Int)))->s.TypeIs (.ref I) "reversed":=λi s y=>y.2.typeIs;have hlt:I<s.heap.objs.size:=by obtain⟨o,ho,_⟩:=hit;exact Km ho
 have hSI:s.heap.objs.size≠I:=λe=>Kt _ (e▸hlt);have hSf:s.heap.objs.size∉[I]:=λhm=>hSI (J0.mp hm);unfold collect;refine q04 (wpAny_runValue (codeAny_builtin F.entry_proto_collect ?_));rw[Around.under_plainId F.plain_proto_collect _];show wpAny _ A.in1 (newList [] >>= λl=>again (.builtin "list.__iadd__" ⟨[l,.ref I],[]⟩)) _ _ s;refine q04 (wpAny_newObj_type ?_);refine q05 ⟨plainId_quiet F.plain_list_iadd _,codeAny_builtin F.entry_list_iadd ?_⟩;rw[Around.under_plainId F.plain_list_iadd _];have hst₁:=W.frame 0 s (s.heap.push {cls:=.type "list",data:=.seq ([]:List Value).toArray}) s.toks hst (Kj _) λb _ o e=>JY _ e;have hS₁:(s.heap.push {cls:=.type "list",data:=.seq ([]:List Value).toArray}).get? s.heap.objs.size=some {cls:=.type "list",data:=.seq ([]:List Value).toArray}:=J4 _ rfl;have h1:Builtin.List.listSameRef (.ref s.heap.objs.size) (.ref I)=false:=by simp[Builtin.List.listSameRef,hSI]
 show wpAny _ A.in1 (Builtin.List.listExtendWith (.ref s.heap.objs.size) (.ref I) (.ref s.heap.objs.size)) _ _ _;unfold Builtin.List.listExtendWith;refine q04 (wpAny_typeOf (hT 0 _ hst₁) ?_);rw[q06 (by rw[h1];decide)];refine q04 (W.self 0 _ _ _ hst₁ ?_);refine q04 (q0Y ?_);unfold Builtin.List.listLengthHint;refine q04 (wpAny_specialOf (hT 0 _ hst₁) F.nolen_rvs ?_);show wpAny _ A.in1 (specialOf (Value.ref I) (Str.ofString "__length_hint__") >>= _) _ _ _;refine q04 (wpAny_specialOf (hT 0 _ hst₁) F.hint_rvs ?_)
 (generalize hid:("reversed.__length_hint__":String)=id0;(fail_if_success (clear hid id0));wp_delta;rw[show splitId id0=some ("reversed","__length_hint__") from by subst hid;decide +kernel];subst hid)
 refine q04 (wpAny_isInstance (b:=true) (hT 0 _ hst₁) (by rw[isSubtype_type];kernel_rfl) ?_);rw[q06 (show ¬ ((!true)=true) by decide)];dsimp only
 split
 ·rename_i hsil
  exact q0Q hsil (by decide +kernel)
 refine q04 (wpAny_rule ?_);refine q04 (wpAny_of_eq (F.slot_rvs_hint.bind _) ?_);dsimp only;refine q04 (wpAny_attempt ?_);refine hint_rvs (i:=(x.length:Int)-1-((0:Nat):Int)) hst₁.2 ⋯ hz λu tk htk=>?_;dsimp only;have hs:sizeLine=16777216:=q0W;have hk:Builtin.List.listTooLong (Int.toNat ((x.length:Int)-1-((0:Nat):Int)+1))=false:=by
  unfold Builtin.List.listTooLong;have e:Int.toNat ((x.length:Int)-1-((0:Nat):Int)+1)=x.length:=by omega
  rw[e]
  simpa using hz
 refine q04 (m:=asInt? (.int _ u)) (q05 ?_);dsimp only;have hfit:Builtin.List.listFitsIndex ((x.length:Int)-1-((0:Nat):Int)+1)=true:=by
  unfold Builtin.List.listFitsIndex;simp;omega
 rw[q06 (by rw[hfit];decide),q06 ⋯,q06 (by rw[hk];decide)];refine q05 ?_
 -- the loop,from a list that may have been touched
 have fin:∀(h₂:Heap) (c:Nat),(∀b o,b≠s.heap.objs.size->(s.heap.push {cls:=.type "list",data:=.seq ([]:List Value).toArray}).get? b=some o->h₂.get? b=some o) ->
   h₂.get? s.heap.objs.size=some {cls:=.type "list",data:=.seq ([]:List Value).toArray c} ->
   codeAny (model prog w) A (.builtin "list.extend.loop" ⟨[.ref s.heap.objs.size,.ref I,.ref s.heap.objs.size],[]⟩) (λr s'=>match r with
    | .ok (.ret v)=>wpAny (model prog w) A (match v with
     | .ref a=>do
      let __do_lift <- load a
      match __do_lift.data with
       | .seq xs _=>pure xs.toList
       |_=>unsupported "internal:collect"
     |_=>unsupported "internal:collect") Q E s'
    | .ok _=>False
    | .error e=>E e s') {s with heap:=h₂,toks:=tk}:=λh₂ c keep hS₂=>by
  have hst₂:(λi (s:K1)=>i<=x.length/\s.heap.IsRvs I x t ((x.length:Int)-1-(i:Int))) 0 {s with heap:=h₂,toks:=tk}:=⟨Kk _,hst₁.2.at λo e=>keep I o (Ne.symm hSI) e⟩;refine codeAny_extend_loopS W hn _ hSf _ x.length 0 _ _ _ rfl (Kk _) hst₂ hS₂ (ItemsOf.nil _) λs' acc' c' hm hS' hacc=>?_;show wpAny _ A (load s.heap.objs.size >>= _) _ _ s';refine q04 (wpAny_load hS' ?_);refine q05 (hQ s' acc' ?_ hacc);exact⟨λb ob hb e=>hm.heap b ob (λhm'=>by
    rcases Kb.mp hm' with e1 | hm'
    ·exact q0Q (e1▸Km e) (Kt _)
    ·exact hb hm') (keep b ob (λe1=>q0Q (e1▸Km e) (Kt _)) (JY _ e)),hm.gens,hm.drawn,hm.os,Ks htk hm.toks⟩
 have quiet:=plainId_quiet F.plain_extend_loop (⟨[.ref s.heap.objs.size,.ref I,.ref s.heap.objs.size],[]⟩:Args)
 split
 ·refine q04 (wpAny_rule ?_)
  show wpAny _ A.in1 ((updateSeq s.heap.objs.size (·.push .none) >>= λ_=>updateSeq s.heap.objs.size (·.pop)) >>= _) _ _ _;refine q04 (q04 (wpAny_updateSeq hS₁ rfl ?_ (by simp) (by simp)));have q1:=PySem.IsL.update (h:=s.heap.push {cls:=.type "list",data:=.seq ([]:List Value).toArray}) (l:=s.heap.objs.size) (items:=([]:List Value).toArray) (n:=0) hS₁ (·.push .none);refine wpAny_updateSeq q1 rfl ?_ (by simp;omega) (by simp);have q2:=PySem.IsL.update q1 (·.pop);exact q05 ⟨quiet,fin _ _ (λb o hb e=>(J3 _ _ (Ne.symm hb)).trans ((J3 _ _ (Ne.symm hb)).trans e)) (show _=some ({cls:=.type "list",data:=.seq ([]:List Value).toArray _}:Obj) from q2)⟩
 ·exact q05 ⟨quiet,fin _ _ (λb o hb e=>e) hS₁⟩
theorem AT{I:Addr}{x sep:Str}{t t0:Tok}{Q:KW}(hh:A.handled=none)(hit:s.heap.IsRvs I x t ((x.length:Int)-1))(hz:x.length<=1000)(hsep:sep.length<=1000)
  (h:∀(s':K1) (t':Tok) (k:Nat),(∀b o,b≠I->s.heap.get? b=some o->s'.heap.get? b=some o)->s'.gens=s.gens->s'.drawn=s.drawn->s'.os=s.os ->
   Q (.str (Txt.join sep (x.cps.toList.reverse.map λc=>(⟨#[c]⟩:Str))) t') {s' with toks:=k}):wpAny (model prog w) A (call (.builtin "str.join") [.str sep t0,.ref I]) Q E s:=by
 have hs:sizeLine=16777216:=q0W;refine wpAny_call (codeAny_call_builtin F.slot_str_join.plain F.entry_str_join (F.slot_str_join.check _ _ _ _ _ _ _ _ (typeIs_str _ _ _) (F.args_str_join_2 _ _) ?_));rw[join_tree_other];refine q04 (wpAny_typeOf hit.typeIs ?_);show wpAny _ A.in1 ((pyIter (.ref I)).tryCatch _ >>= λT=>collect T >>= λm=>joinTail sep m) _ _ s;refine q04 (wpAny_tryCatch (gO hit ?_));refine q04 (kE hh hit ⋯ λs' u B d=>?_);obtain⟨l,C⟩:=exists_strValues u.toList λv U=>by
  obtain⟨j,D,rfl⟩:=Array.mem_iff_getElem.mp (Array.mem_toList_iff.mp U);obtain⟨c,S,_,e⟩:=d.2 j _ (Array.getElem?_eq_getElem D);exact⟨_,_,e⟩
 have n:l.map (·.1)=x.cps.toList.reverse.map λc=>(⟨#[c]⟩:Str):=by
  have Z:l.length=x.length:=by
   have q:=q0R List.length C;simp[strValues]at q;rw[q];exact d.1
  refine List.ext_getElem (by simp[Z];rfl) λj h1 h2=>?_;simp only[List.getElem_map,List.getElem_reverse];have D:j<l.length:=by simpa using h1
  have Y:u.toList[j]?=some (Value.str (l[j]).1 (l[j]).2):=by
   rw[<- C];simp[strValues,D]
  have L:u[j]?=some (Value.str (l[j]).1 (l[j]).2):=by simpa using Y
  obtain⟨c,S,R,e⟩:=d.2 j _ L
  injection e with O _
  rw[O];have J:x.length-1-j<x.cps.size:=by have:x.length=x.cps.size:=rfl;omega
  rw[Array.getElem?_eq_getElem J]at R;have G:=q0S R;rw[<- G];simp only[Array.length_toList,Array.getElem_toList]
  rfl
 rw[<- C];have i:JoinOk sep (l.map (·.1))=true:=by
  unfold JoinOk;rw[StrLaws.joinTotal];have O:((l.map (·.1)).map (·.length)).sum=x.length:=by
   rw[n,Ka];have:((λy:Str=>y.length)∘λc=>(⟨#[c]⟩:Str))=λ_=>1:=by funext c;rfl
   rw[this,List.map_const',List.sum_replicate_nat];simp
   rfl
  have e2:(l.map (·.1)).length=x.length:=by rw[n];simp;rfl
  rw[O,e2];have:x.length*sep.length<=1000*1000:=Nat.mul_le_mul hz hsep;unfold tooLong;rw[q08 ⋯]
  rfl
 have a:=λt' k=>h s' t' k (λb o J e=>B.heap b o (λz=>J (J0.mp z)) e) B.gens B.drawn B.os;unfold JoinOk at i;rw[Bool.not_eq_true']at i;have g:Gives (joinTail sep (strValues l)) (joinMade sep l):=by
  have M:=gives_joinTail sep l i;cases l with
  |nil=>exact M
  |cons p r=>cases r with
   |nil=>exact M
   |cons q r'=>exact M
 rw[<- n]at a;exact g prog w A (wants Q E) s' (post_join l ⟨joinFit_length i,a⟩)
end
namespace F
theorem o8:Slot "reversed" "__init__" "object.__init__":=
 .of (owner:="object") (n:="__init__") (by rw[typeLookup_type,builtinLookup_eq_fast];kernel_rfl) (by decide +kernel) (by decide +kernel) (by decide +kernel)
  (by first | exact .inl (by decide +kernel) | exact .inr (by decide +kernel)) (by rw[isSubtype_type];kernel_rfl)
theorem xz:mroOf (.type "reversed")=pure [.type "reversed",.type "object"]:=by rw[mroOf_type];kernel_rfl
theorem m7:typeLookup (.type "reversed") "__new__"=pure (some (.builtin "reversed.__new__")):=by rw[typeLookup_type,builtinLookup_eq_fast];kernel_rfl
theorem rvs_called:TypeCalled "reversed" "reversed.__new__" "object.__init__":=
 ⟨by decide +kernel,by decide +kernel,⟨_,_,xz⟩,madeBy_type xz m7 (by decide +kernel),by decide +kernel,by rw[isSubtype_type];kernel_rfl,o8⟩
theorem rvs_typeCall_1(a:Value):checkTypeCall "reversed" ⟨[a],[]⟩=pure ():=by kernel_rfl
theorem rvs_newCall_1(a:Value):checkBuiltinCall "reversed.__new__" ⟨[.type "reversed",a],[]⟩=pure ():=by kernel_rfl
theorem rvs_entry_new:entryFor table "reversed.__new__"=some Builtin.«reversed.__new__»:=entryFor_of_tree (by kernel_rfl)
theorem rvs_sub:isSubtype (.type "reversed") (.type "reversed")=pure true:=by rw[isSubtype_type];kernel_rfl
theorem rvs_nostr:typeLookup (.type "str") "__reversed__"=pure none:=by rw[typeLookup_type,builtinLookup_eq_fast];kernel_rfl
end F
section
variable {prog:K6}{w:K9}{A:K8}{E:KW}{s:K1}
theorem tE(a:Value):Builtin.SmallTypes.newClass "reversed" ⟨[.type "reversed",a],[]⟩=pure (.type "reversed",[a]):=by
 unfold Builtin.SmallTypes.newClass;simp only[isType,F.rvs_sub,pure_bind,Bool.not_true,q0a,if_false]
theorem pG(x:Str)(t:Tok)(hz:x.length<=sizeLine):Meets (Builtin.«reversed.__new__» ⟨[.type "reversed",.str x t],[]⟩)
  (λ_ R s=>R (.ok (.ret (.ref s.heap.objs.size))) {s with heap:=s.heap.push (vT x t ((x.length:Int)-1)),toks:=s.toks+1+1}):=
 .of_wp λprog w A R s h=>by
  have hs:sizeLine=16777216:=q0W;unfold Builtin.«reversed.__new__»;refine q04 (wpAny_of_eq (tE _) ?_)
  try dsimp only
  refine q04 (wpAny_of_eq (a:=()) (by first | rfl | kernel_rfl) ?_);refine q04 (wpAny_of_eq (a:=()) (by first | rfl | kernel_rfl) ?_)
  try dsimp only
  refine q04 (wpAny_specialOf (typeIs_str s x t) F.rvs_nostr ?_)
  try dsimp only
  refine q04 ?_;refine q04 (wpAny_isInstance (T:="str") (b:=false) (typeIs_str s x t) (by rw[isSubtype_type];kernel_rfl) ?_);rw[q06 (by decide)];refine q04 (wpAny_specialOf (typeIs_str s x t) F.slot_str_getitem.lookup ?_);dsimp only
  split
  ·refine q05 ?_
   rw[q06 (by decide)];refine q04 (P.len_str ⋯ ?_);refine q04 (m:=asInt? _) (q05 ?_);dsimp only;show wpAny _ _ (newObj (.type "reversed") (.fields #[.str x t,rawInt ((x.length:Int)-1)]) >>= λv=>ret v) _ _ _;exact q04 (wpAny_newObj_type (q05 ⟨_,rfl,h⟩))
  ·rename_i hn
   exact q0Q (by decide +kernel) hn
theorem j_{x:Str}{t:Tok}{Q:KW}(hz:x.length<=sizeLine)
  (h:Q (.ref s.heap.objs.size) {s with heap:=s.heap.push (vT x t ((x.length:Int)-1)),toks:=s.toks+1+1}):wpAny (model prog w) A (call (.type "reversed") [.str x t]) Q E s:=
 callType_new F.rvs_called (by decide) (F.rvs_typeCall_1 _) (F.rvs_newCall_1 _) (λobj=>F.args_object_init_2 obj _) F.rvs_entry_new (pG x t hz) ⟨⟨_,J4 _ rfl,rfl⟩,h⟩
end
end PySem
namespace L2
open PySem PySem.Spec PyProof.Rows
def eU(env:Env):List (Str×NameKind)->List (Str×Addr)->List (Str×Addr)
 | [],acc=>acc
 | (n,k)::r,acc=>if k==.free then eU env r ((n,(env.cells.lookup n).getD 0)::acc) else eU env r acc
theorem lX{env:Env}:∀(ns:List (Str×NameKind)) (acc:List (Str×Addr)),(∀x∈ns,x.2=.free->∃c,env.cells.lookup x.1=some c) ->
  (forIn ns acc fun(x:Str×NameKind) (cs:List (Str×Addr))=>(if x.2==.free then do
    let c <- cellOf env x.1
    pure (ForInStep.yield ((x.1,c)::cs))
   else pure (ForInStep.yield cs):Sem (ForInStep (List (Str×Addr)))))=pure (eU env ns acc)
 | [],acc,_=>rfl
 | (n,k)::r,acc,h=>by
  have ih:=λa=>lX (env:=env) r a λx hx=>h x (Kc _ hx);rw[List.forIn_cons]
  by_cases hk:k=.free
  ·subst hk
   obtain⟨c,hc⟩:=h (n,.free) q0B rfl;have hc':env.cells.lookup n=some c:=hc;have e1:cellOf env n=pure c:=by unfold cellOf;rw[hc']
   simp only[eU,hc',q0L];show((do let c <- cellOf env n;pure (ForInStep.yield ((n,c)::acc))) >>= _)=_;rw[e1,pure_bind,pure_bind];exact ih _
  ·have b:(k==NameKind.free)=false:=by simpa using hk
   simp only[eU,b,q0a,if_false];rw[pure_bind];exact ih _
theorem iM{env:Env}{scope:Scope}(h:∀x∈scope.names,x.2=.free->∃c,env.cells.lookup x.1=some c) :
  closureFor scope env=pure (eU env scope.names []):=by
 unfold closureFor;have e:=lX (env:=env) scope.names [] h;have a:(forIn scope.names ([]:List (Str×Addr)) λx b=>(match x with
   | (name,kind)=>if kind==.free then do
     let c <- cellOf env name
     pure (ForInStep.yield ((name,c)::b))
    else pure (ForInStep.yield b):Sem (ForInStep (List (Str×Addr)))))=pure (eU env scope.names []):=e
 simp only[]at a ⊢
 first
  | (rw[a];rfl)
  | (erw [a];rfl)
theorem gU{env:Env}:∀{ns:List (Str×NameKind)} {acc:List (Str×Addr)} {x:Str} {c:Addr},(∀y∈ns,y.2=.free->∃c,env.cells.lookup y.1=some c) ->
  (∀y c,acc.lookup y=some c->env.cells.lookup y=some c)->(eU env ns acc).lookup x=some c->env.cells.lookup x=some c
 | [],_,_,_,_,ha,e=>ha _ _ e
 | (n,k)::r,acc,x,c,h,ha,e=>by
  have hr:∀y∈r,y.2=.free->∃c,env.cells.lookup y.1=some c:=λy hy=>h y (Kc _ hy);unfold eU at e
  by_cases hk:k=.free
  ·subst hk
   rw[q07 (by simp)]at e;obtain⟨c',hc⟩:=h (n,.free) q0B rfl;have hc':env.cells.lookup n=some c':=hc;refine gU hr (λy d z=>?_) e;rw[hc',q0L,List.lookup_cons]at z
   by_cases q:y=n
   ·subst q
    simp at z;subst z;exact hc'
   ·have q':(y==n)=false:=by simpa using q
    rw[q']at z;exact ha y d z
  ·rw[q06 (by simpa using hk)]at e
   exact gU hr ha e
theorem mV{env:Env}:∀{ns:List (Str×NameKind)} {acc:List (Str×Addr)} {x:Str},((∃c,acc.lookup x=some c)\/(x,NameKind.free)∈ns)->∃c,(eU env ns acc).lookup x=some c
 | [],_,_,h=>by
  rcases h with h | h
  ·exact h
  ·exact nomatch h
 | (n,k)::r,acc,x,h=>by
  unfold eU
  by_cases hk:k=.free
  ·subst hk
   rw[q07 (by simp)];refine mV ?_
   by_cases q:x=n
   ·subst q
    left
    simp[List.lookup_cons]
   ·have q':(x==n)=false:=by simpa using q
    rcases h with⟨c,h⟩ | h
    ·exact .inl ⟨c,by rw[List.lookup_cons,q'];exact h⟩
    ·rcases Kb.mp h with z | z
     ·cases z
      exact q0Q rfl q
     ·exact .inr z
  ·rw[q06 (by simpa using hk)]
   refine mV ?_;rcases h with h | h
   ·exact .inl h
   ·rcases Kb.mp h with z | z
    ·cases z
     exact q0Q rfl hk
    ·exact .inr z
def vg(scope osc:Scope):Scope:=
 {scope with names:=scope.names.map fun(n,k)=>if(k==.free&&osc.kind==.function&&osc.names.lookup n==some .cell) then(n,.cell) else(n,k)}
def AU(scope osc:Scope):Bool:=
 (scope.kind==.function)&&(osc.kind==.function)&&scope.names.all fun(n,k)=>(k != .free || !scope.names.contains (n,NameKind.cell))&&(k != .local||scope.names.lookup n==some .local) &&
  (k != .free||osc.names.lookup n==some .cell||osc.names.lookup n==some .free)&&(k != .free||(vg scope osc).names.lookup n != some .local)
structure bE(scope osc:Scope):Prop where
 kind:scope.kind=.function
 sep:∀x∈scope.names,x.2=.free->(x.1,NameKind.cell)∉scope.names
 loc:∀x∈scope.names,x.2=.local->scope.names.lookup x.1=some .local
 free:∀x∈scope.names,x.2=.free->osc.names.lookup x.1=some .cell\/osc.names.lookup x.1=some .free
 nl:∀x∈scope.names,x.2=.free->(vg scope osc).names.lookup x.1≠some .local
theorem bE.of{scope osc:Scope}(h:AU scope osc=true):bE scope osc:=by
 unfold AU at h;rw[q0O,q0O,KJ]at h;obtain⟨⟨h1,h0⟩,h2⟩:=h;refine⟨by simpa using h1,λx a e=>?_,λx a e=>?_,λx a e=>?_,λx a e=>?_⟩
 all_goals
  obtain⟨n,k⟩:=x;have q:=h2 (n,k) a;simp only[q0O,Bool.or_eq_true,bne_iff_ne,beq_iff_eq]at q
 ·have z:=q.1.1.1.resolve_left (λz=>z e)
  simpa using z
 ·exact q.1.1.2.resolve_left (λz=>z e)
 ·rcases q.1.2 with(z | z) | z
  ·exact q0Q e z
  ·exact .inl z
  ·exact .inr z
 ·exact q.2.resolve_left (λz=>z e)
theorem fu{osc:Scope}:∀{ns:List (Str×NameKind)} {x:Str} {k':NameKind},
  (ns.map fun(n,k)=>if(k==NameKind.free&&osc.kind==.function&&osc.names.lookup n==some .cell) then(n,NameKind.cell) else(n,k)).lookup x=some k' ->
  (k'=.cell\/k'=.free)->(x,NameKind.free)∈ns\/(x,NameKind.cell)∈ns
 | [],_,_,h,_=>by simp at h
 | (n,k)::r,x,k',h,hk'=>by
  rw[Kq]at h
  by_cases q:x=n
  ·subst q
   by_cases z:(k==NameKind.free&&osc.kind==.function&&osc.names.lookup x==some .cell)=true
   ·have:k=.free:=by
     simp only[q0O,beq_iff_eq]at z;exact z.1.1
    subst this;exact .inl q0B
   ·simp only[z,q0a,if_false]at h
    rw[List.lookup_cons]at h;simp at h;subst h;rcases hk' with e | e
    ·subst e;exact .inr q0B
    ·subst e;exact .inl q0B
  ·have a:(x==n)=false:=by simpa using q
   refine(fu (osc:=osc) (k':=k') (ns:=r) (x:=x) ?_ hk').imp (Kc _) (Kc _)
   by_cases z:(k==NameKind.free&&osc.kind==.function&&osc.names.lookup n==some .cell)=true
   ·simp only[z,if_true]at h
    rw[List.lookup_cons,a]at h;exact h
   ·simp only[z,q0a,if_false]at h
    rw[List.lookup_cons,a]at h;exact h
theorem iW:∀(ns:List (Str×NameKind)) (n:Nat) (acc:List (Str×Addr)),cellsFrom n ns acc=cellsFrom n ns []++acc
 | [],_,_=>rfl
 | (x,k)::r,n,acc=>by
  unfold cellsFrom
  split
  ·rw[iW r (n+1) ((x,n)::acc),iW r (n+1) [(x,n)],Kw];rfl
  ·exact iW r n acc
theorem tz:∀{ns:List (Str×NameKind)} {n:Nat} {x:Str} {c:Addr},(x,c)∈cellsFrom n ns []->(x,NameKind.cell)∈ns
 | [],_,_,_,h=>nomatch h
 | (y,k)::r,n,x,c,h=>by
  unfold cellsFrom at h
  split at h
  ·rename_i hk
   rw[iW]at h;rcases J'.mp h with h | h
   ·exact Kc _ (tz h)
   ·cases J0.mp h
    have:k=.cell:=by simpa using hk
    subst this;exact q0B
  ·exact Kc _ (tz h)
theorem qO:∀{ns:List (Str×NameKind)} {n:Nat} {x:Str} {acc:List (Str×Addr)},((x,NameKind.cell)∈ns\/∃c,acc.lookup x=some c)->∃c,(cellsFrom n ns acc).lookup x=some c
 | [],_,_,_,h=>h.elim (λz=>nomatch z) id
 | (y,k)::r,n,x,acc,h=>by
  unfold cellsFrom
  split
  ·refine qO ?_
   by_cases q:x=y
   ·subst q
    exact .inr ⟨n,by simp[List.lookup_cons]⟩
   ·have q':(x==y)=false:=by simpa using q
    rcases h with h | ⟨c,h⟩
    ·rcases Kb.mp h with z | z
     ·cases z;exact q0Q rfl q
     ·exact .inl z
    ·exact .inr ⟨c,by rw[List.lookup_cons,q'];exact h⟩
  ·rename_i hk
   refine qO ?_;rcases h with h | h
   ·rcases Kb.mp h with z | z
    ·cases z;exact q0Q rfl hk
    ·exact .inl z
   ·exact .inr h
def dP(env:Env)(scope:Scope)(C:Addr):List (Str×Addr):=cellsFrom (C+1) scope.names (eU env scope.names [])
theorem kh:∀{ns:List (Str×NameKind)} {n:Nat} {x:Str} {c:Addr},(x,c)∈cellsFrom n ns []->n<=c
 | [],_,_,_,h=>nomatch h
 | (y,k)::r,n,x,c,h=>by
  unfold cellsFrom at h
  split at h
  ·rw[iW]at h
   rcases J'.mp h with h | h
   ·exact Ks (Nat.le_succ _) (kh h)
   ·cases J0.mp h
    exact Kj _
  ·exact kh h
theorem oP:∀{ns:List (Str×NameKind)} {n:Nat},(cellsFrom n ns []).Pairwise λx y=>x.2≠y.2
 | [],_=>List.Pairwise.nil
 | (y,k)::r,n=>by
  unfold cellsFrom
  split
  ·rw[iW]
   refine List.pairwise_append.mpr ⟨oP,by simp,λa ha b hb e=>?_⟩;cases J0.mp hb;have:=kh (x:=a.1) (c:=a.2) ha;rw[e]at this;exact q0Q this (Nat.not_succ_le_self _)
  ·exact oP
theorem ip{env:Env}{scope:Scope}{C:Addr}{x:Str}{c:Addr}(h:(dP env scope C).lookup x=some c) :
  ((x,c)∈cellsFrom (C+1) scope.names []/\C<c/\(x,NameKind.cell)∈scope.names)\/((cellsFrom (C+1) scope.names []).lookup x=none/\(eU env scope.names []).lookup x=some c):=by
 unfold dP at h;rw[iW,List.lookup_append]at h;cases q:(cellsFrom (C+1) scope.names []).lookup x with
 |none=>rw[q]at h;exact .inr ⟨rfl,h⟩
 |some d=>
  rw[q]at h;cases h;have:=mem_of_lookup q;exact .inl ⟨this,kh this,tz this⟩
theorem Bz{ns:List (Str×NameKind)}{n:Nat}{x:Str}(h:(x,NameKind.cell)∉ns):(cellsFrom n ns []).lookup x=none:=by
 cases q:(cellsFrom n ns []).lookup x with
 |none=>rfl
 |some d=>exact q0Q (tz (mem_of_lookup q)) h
section
variable {M:Model}{A:K8}{E:KW}{s:K1}
theorem eY{scope:Scope}{globals:Addr}{closure:List (Str×Addr)}{qual:Str}{func:La}{code:Value}{outer:Env}{builtins:Addr}{Q:Env->Shared->Prop}
  (hQ:Q (newEnv scope s.heap.objs.size globals (cellsFrom (s.heap.objs.size+1) scope.names closure) qual func code (some outer) builtins) {s with heap:=pushCells (s.heap.push {cls:=.type "dict",data:=.dict #[]}) scope.names}) :
  wpAny M A (newFunctionEnv scope globals closure [] qual func code (some outer) builtins) Q E s:=by
 simp only[newFunctionEnv,Option.isSome_some,if_true];simp only[newEnv]at hQ;refine q04 (wpAny_alloc ?_);refine q04 (wpAny_layCells _ (λname a cells=>by cases b:a==NameKind.cell<;>simp[b]) _ _ _ _ ?_);rw[show({s with heap:=s.heap.push {cls:=.type "dict",data:=.dict #[]} }:Shared).heap.objs.size=s.heap.objs.size+1 from Heap.size_push ..];rw[List.forIn_nil];exact q04 (q05 (q05 hQ))
end
def Cx.blk(X:Cx)(N':K7)(s₂:K1)(H₂:Hp)(scope:Scope)(fp:K3)(C:Addr):Cx where
 prog:=X.prog
 w:=X.w
 K:=X.K
 mg:=X.mg
 base:=X.base
 A:=X.A
 N:=N'
 s₀:=s₂
 H₀:=H₂
 env:=compEnvC scope (dP X.env scope C) C X.env
 outer:=X.stack
 stack:=X.stack
 ex:=fp
 fn:=λx=>scope.names.contains (x,NameKind.cell)
 calm:=X.calm
 pn:=[]
 xe:=λ_ _=>False
def ql(k:Nat)(js:K0)(σ:St):St:=List.replicate k none++js.map λj=>(σ[j]?).join
def nr(own:K7)(js:K0)(N:K7):List Str:=own++js.map λj=>N.getD j Str.empty
section
variable {X:Cx}
theorem Inv.capFree{pins:KZ}{σ:St}{H:Hp}{s:K1}{scope:Scope}(I:Inv X pins σ H s)(hk:bE scope X.env.scope):∀x∈scope.names,x.2=.free->∃c,X.env.cells.lookup x.1=some c:=
 λx hx e=>I.ok.has x.1 (hk.free x hx e)
theorem Inv.capL{pins:KZ}{σ:St}{H:Hp}{s:K1}{scope:Scope}{x:Str}{c:Addr}(I:Inv X pins σ H s)(hk:bE scope X.env.scope)(e:(eU X.env scope.names []).lookup x=some c):X.env.cells.lookup x=some c:=
 gU (I.capFree hk) (λ_ _ z=>by simp at z) e
theorem Inv.blkL{pins:KZ}{σ:St}{H:Hp}{s:K1}{scope:Scope}{C:Addr}{x:Str}{c:Addr}(I:Inv X pins σ H s)(hk:bE scope X.env.scope)(e:(dP X.env scope C).lookup x=some c) :
  ((x,c)∈cellsFrom (C+1) scope.names []/\C<c/\(x,NameKind.cell)∈scope.names)\/X.env.cells.lookup x=some c:=
 (ip e).imp id λz=>I.capL hk z.2
theorem EO{pins:KZ}{σ:St}{H:Hp}{s:K1}{N':K7}{scope:Scope}{fp:K3}{C:Addr}(I:Inv X pins σ H s)(hk:bE scope X.env.scope)(hC:s.heap.objs.size<=C)
  (hf:∀b∈fp,my X pins H b) (ho:∀b∈fp,∃o,s.heap.get? b=some o):(X.blk N' s H scope fp C).Ok where
 mod:=I.ok.mod
 kind:=hk.kind
 glob:=I.ok.glob
 blt:=I.ok.blt
 above:=hC
 inj:=λx y c e1 e2=>by
  have low:∀z,X.env.cells.lookup z=some c->c<C:=λz e=>by
   obtain⟨v,q⟩:=I.cell z c e;exact Ke q.lt hC
  rcases I.blkL hk e1 with⟨a1,a2,_⟩ | a<;>rcases I.blkL hk e2 with⟨b1,b2,_⟩ | b
  ·exact name_of_addr oP a1 b1
  ·exact q0Q (low _ b) (Nat.not_lt.mpr (q0P a2))
  ·exact q0Q (low _ a) (Nat.not_lt.mpr (q0P b2))
  ·exact I.ok.inj x y c a b
 has:=λx h=>by
  refine qO ?_;have z:(x,NameKind.free)∈scope.names\/(x,NameKind.cell)∈scope.names:=by
   rcases h with h | h
   ·exact fu (osc:=X.env.scope) h (.inl rfl)
   ·exact fu (osc:=X.env.scope) h (.inr rfl)
  rcases z with z | z
  ·exact .inr (mV (.inr z))
  ·exact .inl z
 cab:=λx c z e=>by
  have k:(x,NameKind.cell)∈scope.names:=by
   have j:scope.names.contains (x,NameKind.cell)=true:=z
   simpa using j
  have i:(dP X.env scope C).lookup x=some c:=e;rcases ip i with⟨_,a,_⟩ | ⟨a,_⟩
  ·exact Ks hC (q0P a)
  ·obtain⟨d,q⟩:=qO (n:=C+1) (acc:=[]) (.inl k)
   rw[a]at q;cases q
 hd:=I.ok.hd
 frames:=I.ok.frames
 stk:=.inl rfl
 exf:=λb g=>⟨λe=>by
  obtain⟨o,q⟩:=ho b g;have i:b=C:=e;rw[i]at q;exact q0Q (Km q) (Nat.not_lt.mpr hC),λx c e=>by
  rcases I.blkL hk e with⟨_,a,_⟩ | a
  ·obtain⟨o,q⟩:=ho b g
   intro z;rw[z]at a;exact q0Q (Ke (Km q) hC) (Nat.not_lt.mpr (q0P a))
  ·exact(hf b g).2.2.2.2.1 x c a⟩
 bs:=I.bs
 bsz:=Ks I.ok.bsz I.sz
 noex:=λb o e g=>by
  rcases(hf b g).2.2.2.1 with z | z
  ·exact I.ok.noex b o e z
  ·exact q0Q (Km (I.ok.bs b o e).1) (Nat.not_lt.mpr z)
 exfs:=λb g l=>by
  rcases Kb.mp (I.stkSub b l) with z | z
  ·exact(hf b g).2.1 z
  ·exact(hf b g).2.2.1 z
 funs:=I.stack
 frf:=I.stkFree
theorem zq{pins:KZ}{σ:St}{H:Hp}{s s1:K1}{own:K7}{js:K0}{scope:Scope}{fp:K3}{C:Addr}{m:K4}(I:Inv X pins σ H s)(hk:bE scope X.env.scope)(hC:s.heap.objs.size<=C)
  (hf:∀b∈fp,my X pins H b) (ho:∀b∈fp,∃o,s.heap.get? b=some o) (hos:s1.os=s.os) (hg:s1.gens=s.gens) (hn:s1.heap.Ns C m) (keep:∀b o,s.heap.get? b=some o->s1.heap.get? b=some o)
  (hown:∀x c,(x,c)∈cellsFrom (C+1) scope.names []->s1.heap.IsCell c none) (hcap:(js.all λj=>scope.names.contains (X.N.getD j Str.empty,NameKind.free))=true) :
  Inv (X.blk (nr own js X.N) s H scope fp C) [] (ql own.length js σ) H s1:=by
 have cl:=fun{x:Str} {c:Addr} (e:(eU X.env scope.names []).lookup x=some c)=>gU (I.capFree hk) (λ_ _ z=>by simp at z) e;refine⟨EO I hk hC hf ho,hos,hg▸I.bare,Un.kept keep,⟨m,hn,λi x v e1 Z Y=>?_⟩,λx c e=>?_,I.hok.fresh hC,λx c e=>(I.blkL hk e).elim (λz=>I.hok.fresh (Ks hC (q0P z.2.1))) λz=>I.freeC x c z,λp O=>(nomatch O),I.hok.kept keep,?_⟩
 ·have d:(own++js.map λj=>X.N.getD j Str.empty)[i]?=some x:=e1
  have a:(List.replicate own.length none++js.map λj=>(σ[j]?).join)[i]?=some (some v):=Z
  by_cases y:i<own.length
  ·rw[Kh (by rw[List.length_replicate];exact y),List.getElem?_replicate,q07 y]at a
   cases a
  ·have k:own.length<=i:=Nat.le_of_not_lt y
   rw[Kg (by rw[List.length_replicate];exact k),List.length_replicate,J1]at a;rw[Kg k,J1]at d;cases B:js[i-own.length]? with
   |none=>rw[B]at d;cases d
   |some j=>
    rw[B]at d a;have J:X.N.getD j Str.empty=x:=q0S d;have n:(σ[j]?).join=some v:=q0S a;have G:σ[j]?=some (some v):=by
     cases q:σ[j]? with
     |none=>rw[q]at n;cases n
     |some z=>rw[q]at n;simp at n;rw[n]
    have w:j<X.N.length:=by rw[<- I.len];exact(JX.mp G).1
    have T:X.N[j]?=some x:=by rw[<- J,q0A,JW w];rfl
    have r:(x,NameKind.free)∈scope.names:=by
     have q:=KJ.mp hcap j (J2 B);rw[J]at q
     simpa using q
    have D:=hk.free _ r rfl;obtain⟨mo,hno,R⟩:=I.loc;obtain⟨u,L,M⟩:=R j x v T G (D.elim (λz=>.inr (.inl z)) λz=>.inr (.inr z));refine⟨u,L,?_⟩;rcases M with⟨g,_⟩ | ⟨g,c,U,S⟩
    ·rcases D with z | z
     ·rw[show X.env.kindOf x=X.env.scope.names.lookup x from rfl,z]at g;cases g
     ·rw[show X.env.kindOf x=X.env.scope.names.lookup x from rfl,z]at g;cases g
    ·obtain⟨c',l⟩:=mV (env:=X.env) (ns:=scope.names) (acc:=[]) (x:=x) (.inr r)
     have:=cl l;rw[U]at this;cases this;refine .inr ⟨?_,c,?_,S.keeps keep⟩
     case refine_2=>
      show(dP X.env scope C).lookup x=some c;unfold dP;rw[iW,List.lookup_append,Bz (hk.sep _ r rfl)];exact l
     -- its kind within the block
     rcases Y with z | z | z
     ·exact q0Q z (hk.nl _ r rfl)
     ·exact .inl z
     ·exact .inr z
 ·rcases I.blkL hk e with z | z
  ·exact⟨none,hown x c z.1⟩
  ·obtain⟨v,z⟩:=I.cell x c z
   exact⟨v,z.keeps keep⟩
 ·show(List.replicate own.length none++js.map λj=>(σ[j]?).join).length=(own++js.map λj=>X.N.getD j Str.empty).length
  simp
def DD(env:Env)(ifs:Lb):Sem Bool:=forIn ifs true λc r=>if r=true then do let ok <- isTrue c env (eval c env);pure (ForInStep.yield ok) else pure (ForInStep.yield r)
theorem sQ{prog:K6}{w:K9}{A:K8}{R:Result->Shared->Prop}{s:K1}{elt target iter:Expr}{ifs:Lb}{scope:Scope}{pos:Pos}{it acc:Value}{env:Env}(I:Nat->Shared->Prop)
  (turn:∀n s,I n s->wpAny (model prog w) A (pyNext it) (λr s₁=>match r with
   |none=>R (.ok .next) s₁
   |some v=>wpAny (model prog w) A (letOwnedTupleGo target it v) (λ_ s₁'=>wpAny (model prog w) A (assign target env v) (λ_ s₂=>
     wpAny (model prog w) A (DD env ifs) (λok s₃=>
      if ok=true then wpAny (model prog w) A (eval elt env) (λx s₄=>
       wpAny (model prog w) A (call (.builtin "list.append") [acc,x]) (λ_ s₅=>∃m,m<n/\I m s₅) (λ_ _=>False) s₄) (λ_ _=>False) s₃
      else ∃m,m<n/\I m s₃) (λ_ _=>False) s₂) (λ_ _=>False) s₁') (λ_ _=>False) s₁) (λ_ _=>False) s)
  (n:Nat) (h:I n s) :
  codeAny (model prog w) A (.compLoop (.ListComp elt [⟨target,iter,ifs,0⟩] scope pos) 0 it acc env) R s:=by
 refine codeAny_loop rfl I (λn s k=>?_) n h;show wpAny _ A ((compTurn (.ListComp elt [⟨target,iter,ifs,0⟩] scope pos) 0 it acc env).onRaise (λx=>do noteFrame x env;theTreesLotGoes x)) _ _ s;refine wpAny_noted ?_;rw[compTurn_list];have up:∀{α:Type} {t:Sem α} {Q Q':α->Shared->Prop} {E':KW} {s:K1},wpAny (model prog w) A t Q (λ_ _=>False) s->(∀a s,Q a s->Q' a s)->wpAny (model prog w) A t Q' E' s:=
  λh j=>q0X h j λ_ _ f=>f.elim
 refine q04 (wpAny_standAt (q04 (up (turn n s k) λr s₁ d=>?_)));cases r with
 |none=>exact q05 d
 |some v=>
  refine q04 (up d λ_ s₁' b=>q04 (up b λ_ s₂ i=>q04 (up i λok s₃ c=>?_)));cases ok with
  |false=>exact q05 ⟨rfl,c⟩
  |true=>
   exact q04 (q04 (up c λx s₄ g=>q04 (up g λ_ s₅ e=>q05 (q05 ⟨rfl,e⟩))))
def Ft(X:Cx)(ifs:Lb)(t:TT):Prop:=
 ∀(pins:KZ) (s:K1) (σ:St) (H:Hp) (Q:Bool->Hp->Prop),Inv X pins σ H s->t σ H Q->wpAny (model X.prog X.w) X.A (DD X.env ifs) (TP X pins σ Q) X.xe s
def xj:TT:=λ_ H Q=>Q true H
theorem bW{X:Cx}:Ft X [] xj:=λpins s σ H Q I h=>wpAny_tests_nil ⟨H,I,h⟩
theorem kg{X:Cx}{c:Expr}{t:TT}(h:PT X c t):Ft X [c] t:=λpins s σ H Q I q=>wpAny_tests_one (h pins s σ H Q I q)
def eR(J:It)(g:TG)(ti:TT)(te:TE)(σ:St)(H:Hp)(Q:List V->Hp->Prop):Prop:=
 ∃W:Nat->Nat->List V->St->Hp->Prop,(∃m,W 0 m [] σ H)/\∀i m acc σ' H',W i m acc σ' H' ->
  acc.length<sizeLine/\((J.stop i H'/\Q acc H') \/
   (J.go i H'/\∃N:List V->St->Hp->Prop,(∀acc' σ2 H2,N acc' σ2 H2->∃m',m'<m/\W (i+1) m' acc' σ2 H2) /\
    ∀x H2,J.yld i H' x H2->g x σ' H2 λσ2 H3=>ti σ2 H3 λb H4=>if b=true then te σ2 H4 λv H5=>N (acc++[v]) σ2 H5 else N acc σ2 H4))
def xv(k:Nat)(js:K0)(wi:TI)(g:TG)(ti:TT)(te:TE):TE:=λσ H Q=>wi σ H λJ H1=>eR J g ti te (ql k js σ) H1 λacc H'=>∀l,H' l=none->Q (.ref l) (aD H' l (.lst acc))
abbrev gv(its:K2)(n:Nat):Obj:={cls:=.type "list",data:=.seq its.toArray n}
theorem qL{pins:KZ}{σ:St}{H:Hp}{s:K1}{elt tg iter:Expr}{ifs:Lb}{scope:Scope}{pos:Pos}{own:K7}{js:K0}{g:TG}{ti:TT}{te:TE}{J:It}{fp:K3}{it:Addr}{tn:Nat->Heap->Prop}{Q:List V->Hp->Prop}{E:KW}
  {RR:Value->Addr->Result->Shared->Prop} (hc:X.calm=true) (hk:bE scope X.env.scope) (hcap:(js.all λj=>scope.names.contains (X.N.getD j Str.empty,NameKind.free))=true)
  (hg:∀s H fp C,PG (X.blk (nr own js X.N) s H scope fp C) tg g) (hi:∀s H fp C,Ft (X.blk (nr own js X.N) s H scope fp C) ifs ti) (he:∀s H fp C,PE (X.blk (nr own js X.N) s H scope fp C) elt te)
  (I:Inv X pins σ H s) (T:rQ X.prog X.w X.K tg J fp it tn) (st:tn 0 s.heap) (hf:∀b∈fp,my X pins H b)
  (hW:eR J g ti te (ql own.length js σ) H Q)
  (hRR:∀(D C:Addr) (s':K1) (H':Hp) (acc:List V) (m:K4),Q acc H'->H' D=none->Inv X pins σ (aD H' D (.lst acc)) s'->s'.heap.Ns C m->aD H' D (.lst acc) C=none->C≠X.env.locals->X.s₀.heap.objs.size<=C ->
   (∀x c,X.env.cells.lookup x=some c->c≠C)->(∀p∈X.pn++pins,p.1≠C)->RR (.ref D) C (.ok .next) s') :
  wpAny (model X.prog X.w) X.A (newList []) (λacc s₃=>wpAny (model X.prog X.w) X.A (newFunctionEnv scope X.env.globals (eU X.env scope.names []) [] X.env.qual none .none (some X.env)) (λcenv s₄=>
   codeAny (model X.prog X.w) X.A (.compStart (.ListComp elt [⟨tg,iter,ifs,0⟩] scope pos) 0 (.ref it) acc {cenv with scope:=relabel scope X.env}) (RR acc cenv.locals) s₄) E s₃) E s:=by
 obtain⟨W,⟨m0,w0⟩,turn⟩:=hW;refine wpAny_newObj_type (eY ?_);dsimp only;generalize b4:s.heap.push {cls:=.type "list",dict:=none,data:=.seq ([]:List Value).toArray}=H2;generalize d9:pushCells (H2.push {cls:=.type "dict",data:=.dict #[]}) scope.names=h₁;have b1:∀b o,(H2.push {cls:=.type "dict",data:=.dict #[]}).get? b=some o->h₁.get? b=some o:=λb o e=>d9▸pushCells_keeps _ _ b o e;have d6:h₁.Ns H2.objs.size λ_=>none:=by
  have q:(H2.push {cls:=.type "dict",data:=.dict #[]}).Ns H2.objs.size λ_=>none:=Heap.Ns.new ..;exact q.at' λo e=>b1 _ o e
 have b2:∀x c,(x,c)∈cellsFrom (H2.objs.size+1) scope.names []->h₁.IsCell c none:=λx c e=>by
  have ok:=cellsFrom_ok scope.names (H2.push {cls:=.type "dict",data:=.dict #[]}) (H2.objs.size+1) [] ⟨λ_ _ hm=>(nomatch hm),List.Pairwise.nil⟩ (by rw[Heap.size_push];exact Kj _);rw[Heap.size_push,d9]at ok;exact(ok.empty x c e).1
 have hC:H2.objs.size=s.heap.objs.size+1:=by rw[<- b4,Heap.size_push]
 have b6:s.heap.objs.size≠H2.objs.size:=by rw[hC];exact Kf (Ku _)
 have L:s.heap.objs.size<=H2.objs.size:=by rw[hC];exact Nat.le_succ _
 have c0:∀b,b<s.heap.objs.size->b≠H2.objs.size/\b≠s.heap.objs.size:=λb l=>⟨by rw[hC];exact Kf (Nat.lt_succ_of_lt l),Kf l⟩;have c9:∀b o,s.heap.get? b=some o->h₁.get? b=some o:=λb o e=>b1 b o (JY _ (b4▸JY _ e));have e0:h₁.get? s.heap.objs.size=some (gv [] 0):=b1 _ _ (JY _ (b4▸J4 _ rfl));have a0:∀b∈fp,∃o,s.heap.get? b=some o:=λb l=>let ⟨o,e,_⟩:=T.obj 0 _ st b l;⟨o,e⟩
 have c1:tn 0 h₁:=T.keep 0 _ _ st λb _ o e=>c9 b o e;generalize B:X.blk (nr own js X.N) s H scope fp H2.objs.size=Xb;have I₁:Inv Xb [] (ql own.length js σ) H {s with heap:=h₁}:=B▸zq I hk L hf a0 rfl rfl d6 c9 b2 hcap;have eP:Xb.prog=X.prog:=by rw[<- B];rfl
 have ew:Xb.w=X.w:=by rw[<- B];rfl
 have eK:Xb.K=X.K:=by rw[<- B];rfl
 have eA:Xb.A=X.A:=by rw[<- B];rfl
 have ec:Xb.calm=true:=by rw[<- B];exact hc
 have eE:Xb.env=compEnvC scope (dP X.env scope H2.objs.size) H2.objs.size X.env:=by rw[<- B];rfl
 have ex:Xb.xe=λ_ _=>False:=by rw[<- B];rfl
 have es:Xb.s₀=s:=by rw[<- B];rfl
 have eh:Xb.H₀=H:=by rw[<- B];rfl
 have ef:Xb.fs=vj X.stack:=by rw[<- B];rfl
 have e3:Xb.ex=fp:=by rw[<- B];rfl
 have ep:Xb.pn=[]:=by rw[<- B];rfl
 have eL:Xb.env.locals=H2.objs.size:=by rw[eE];rfl
 have f3:H s.heap.objs.size=none:=I.hok.fresh (Kj _)
 -- D is no iterator's,no frame's
 have e1:∀b∈fp,b≠s.heap.objs.size:=λb l e=>by
  obtain⟨o,q⟩:=a0 b l;rw[e]at q;exact q0Q (Km q) (Kt _)
 have f1:s.heap.objs.size∉Xb.fs:=λz=>by
  rw[ef]at z;rcases Kb.mp (I.stkSub _ z) with q | q
  ·exact q0Q I.lt (by rw[<- q];exact Kt _)
  ·exact I.nofs (Kj _) q
 have a5:∀x c,Xb.env.cells.lookup x=some c->c≠s.heap.objs.size:=λx c e q=>by
  rcases I.blkL hk (C:=H2.objs.size) (x:=x) (c:=c) (by rw[eE]at e;exact e) with⟨_,z,_⟩ | z
  ·rw[q]at z
   exact q0Q L (Nat.not_le.mpr z)
  ·obtain⟨v,o,ho,_⟩:=I.cell x c z
   rw[q]at ho;exact q0Q (Km ho) (Kt _)
 have R:∀{pl:KZ} {H':Hp},(∀b∈fp,H' b=none)->(∀p∈pl,p.1=s.heap.objs.size)->∀b∈fp,my Xb pl H' b:=λhn S b l=>by
  refine⟨hn b l,?_,?_,.inl (by rw[e3];exact l),λx c e=>?_,λp d1=>?_⟩
  ·rw[eL];exact(c0 b (let ⟨o,q⟩:=a0 b l;Km q)).1
  ·rw[ef];intro z
   rcases Kb.mp (I.stkSub b z) with q | q
   ·exact(hf b l).2.1 q
   ·exact(hf b l).2.2.1 q
  ·rcases I.blkL hk (C:=H2.objs.size) (x:=x) (c:=c) (by rw[eE]at e;exact e) with⟨_,z,_⟩ | z
   ·intro q
    rw[q]at z;obtain⟨o,q2⟩:=a0 b l;exact q0Q (Ke (Km q2) L) (Nat.not_lt.mpr (q0P z))
   ·exact(hf b l).2.2.2.2.1 x c z
  ·rw[ep,KN]at d1
   rw[S p d1];exact(e1 b l).symm
 have a6:∀s₃:Shared,s₃={s with heap:=h₁} ->
   codeAny (model X.prog X.w) X.A (.compLoop (.ListComp elt [⟨tg,iter,ifs,0⟩] scope pos) 0 (.ref it) (.ref s.heap.objs.size) (compEnvC scope (dP X.env scope H2.objs.size) H2.objs.size X.env))
    (RR (.ref s.heap.objs.size) H2.objs.size) s₃:=by
  rintro s₃ rfl;refine sQ (λn s'=>∃(i:Nat) (acc:List V) (a:K2) (k:Nat) (σ':St) (H':Hp),Inv Xb [] σ' H' s'/\tn i s'.heap/\(∀b∈fp,H' b=none)/\H' s.heap.objs.size=none/\s'.heap.get? s.heap.objs.size=some (gv a k)/\bp acc a/\W i n acc σ' H')
   ?_ m0 ⟨0,[],[],0,_,H,I₁,c1,λb l=>(hf b l).1,f3,e0,.nil,w0⟩
  rintro n s' ⟨i,acc,a,k,σ',H',I',c6,e2,M,e6,Z,w'⟩;obtain⟨d7,tt⟩:=turn i n acc σ' H' w'
  -- the gathered list,pinned
  have Ip:Inv Xb [(s.heap.objs.size,gv a k)] σ' H' s':=I'.pins_of λp S=>by
   have e:p=(s.heap.objs.size,gv a k):=by simpa using S
   subst e;exact⟨e6,M,by rw[eL];exact b6,f1,λv z=>by cases z⟩
  have b0:∀p∈[(s.heap.objs.size,gv a k)],p.1=s.heap.objs.size:=λp S=>by
   have e:p=(s.heap.objs.size,gv a k):=by simpa using S
   rw[e]
  rcases tt with⟨c2,q⟩ | ⟨go,N,hN,step⟩
  ·have d:=T.done Xb eP ew eK ec i _ s' σ' H' (λ_ _=>False) Ip (R e2 b0) c6 c2
   rw[eA]at d;refine q0X d (λr s1 hr=>?_) λ_ _ z=>z;obtain⟨rfl,I1⟩:=hr;have e5:s1.heap.get? s.heap.objs.size=some (gv a k):=(I1.pin _ (q0C _ (J0.mpr rfl))).1;obtain⟨mC,b3,_⟩:=I1.loc;rw[eL]at b3;obtain⟨oC,_,_,hoC,_⟩:=id b3;have f4:H' H2.objs.size=none:=by have:=I1.free;rwa [eL]at this
   have ub:Un (vj X.stack) fp H H' s.heap s1.heap:=by have:=I1.base;rwa [ef,e3,eh,es]at this
   refine hRR _ _ s1 H' acc mC q M ?_ b3 ?_ ?_ ?_ ?_ ?_
   ·-- cY outside
    refine I.call' (ch:=fp) (by have:=I1.os;rwa [es]at this) ⟨λb o e n1 h1 h2=>ub.keep b o e n1 h1 h2,λb o e n1 h1 h2=>ub.slot b o e n1 h1 h2,λb o e n1 h1=>?_,ub.there,λb xs e=>?_,λb o u e=>?_,λb ps e=>?_⟩ ?_ (by have:=I1.bare;exact this) λb l=>?_
    ·rw[ar (λz=>by rw[z]at e;exact q0Q (Km e) (Kt _))]
     exact ub.free b o e n1 h1
    ·rw[ar (aI (ub.tups b xs e) M)]
     exact ub.tups b xs e
    ·rw[ar (aI (ub.frzs b o u e) M)]
     exact ub.frzs b o u e
    ·obtain⟨more,z⟩:=ub.tbls b ps e
     exact⟨more,by rw[ar (aI z M)];exact z⟩
    ·intro b u e
     have a7:=I1.hok;rw[eP,ew]at a7
     by_cases l:b=s.heap.objs.size
     ·subst l
      rw[af]at e;cases e;exact⟨q0P d7,a,k,Z,e5⟩
     ·rw[ar l]at e
      refine(a7 b u e).stay (λc v _ z=>z) (λc z=>?_) λc xs z=>?_
      ·rw[ar (aI z M)];exact z
      ·rw[ar (aI z M)];exact z
    ·exact⟨(hf b l).2.2.2.1,(hf b l).2.1,(hf b l).2.2.2.2.1,(hf b l).2.2.2.2.2⟩
   ·rw[ar b6.symm];exact f4
   ·intro z;have:=I.lt;rw[<- z]at this;exact q0Q this (Nat.not_lt.mpr L)
   ·exact Ks I.sz L
   ·intro x c e z
    obtain⟨v,o,ho,_⟩:=I.cell x c e;rw[z]at ho;exact q0Q (Km ho) (Nat.not_lt.mpr L)
   ·intro p S z
    have:=(I.pin p S).1;rw[z]at this;exact q0Q (Km this) (Nat.not_lt.mpr L)
  ·have d:=T.item Xb eP ew eK ec i _ s' σ' H' (λ_ _=>False) Ip (R e2 b0) c6 go
   rw[eA]at d;refine q0X d (λr s1 hr=>?_) λ_ _ z=>z;obtain⟨u,rfl,d2⟩:=hr;refine q0X d2 (λ_ s2 f0=>?_) λ_ _ z=>z;obtain⟨x,e4,I2,r2,y2,a9,f5⟩:=f0;have f6:=I2.pinned (R f5 b0) (T.obj _ _ a9);have G:=B▸hg s H fp H2.objs.size;have d3:=G _ s2 σ' e4 x u _ f6 r2 (step x e4 y2);rw[eP,ew,eA,ex,eE]at d3;refine q0X d3 (λ_ s3 e9=>?_) λ_ _ z=>z;obtain⟨σ3,H3,I3,q3⟩:=e9;have Gi:=B▸hi s H fp H2.objs.size;have d4:=Gi _ s3 σ3 H3 _ I3 q3;rw[eP,ew,eA,ex,eE]at d4;refine q0X d4 (λb s4 e8=>?_) λ_ _ z=>z;obtain⟨H4,I4,q4⟩:=e8;have U:∀{O:K1} {Y:Hp} {σ5:St},Inv Xb ([(s.heap.objs.size,gv a k)]++nv fp s2.heap) σ5 Y O->O.heap.get? s.heap.objs.size=some (gv a k)/\Y s.heap.objs.size=none/\tn (i+1) O.heap/\∀b∈fp,Y b=none:=fun{O Y σ5} I5=>by
    have pD:=I5.pin (s.heap.objs.size,gv a k) (q0C _ (q0D _ (J0.mpr rfl)));refine⟨pD.1,pD.2.1,T.keep _ _ _ a9 λb l o e=>(I5.pin (b,o) (q0C _ (q0C _ (g7 l e)))).1,λb l=>?_⟩;obtain⟨o,e,_⟩:=T.obj _ _ a9 b l;exact(I5.pin (b,o) (q0C _ (q0C _ (g7 l e)))).2.1
   have bare:∀{O:K1} {Y:Hp} {σ5:St} {pl:KZ},Inv Xb pl σ5 Y O->Inv Xb [] σ5 Y O:=λI5=>I5.pins_of λp S=>nomatch S;cases b with
   |false=>
    obtain⟨m',hm,w5⟩:=hN _ _ _ q4;obtain⟨a1,a2,a3,a4⟩:=U I4;exact⟨m',hm,i+1,acc,a,k,σ3,H4,bare I4,a3,a4,a2,a1,Z,w5⟩
   |true=>
    have Ge:=B▸he s H fp H2.objs.size;have d5:=Ge _ s4 σ3 H4 _ I4 q4;rw[eP,ew,eA,ex,eE]at d5;refine q0X d5 (λy O e7=>?_) λ_ _ z=>z;obtain⟨v,Y,I5,r5,q5⟩:=e7;obtain⟨m',hm,w5⟩:=hN _ _ _ q5;obtain⟨a1,a2,a3,a4⟩:=U I5;have hl:=Z.length;refine call_meets F.slot_list_append ⟨_,a1,rfl⟩ F.entry_list_append (F.args_list_append_2 _ _) (PySem.list_append s.heap.objs.size a.toArray k y (by rw[J5];omega)) ⟨a1,?_⟩;have qu:=PySem.IsL.update a1 (λa8=>a8.push y);have qe:(a.toArray.push y)=(a++[y]).toArray:=by simp
    rw[qe]at qu;have I6:Inv Xb [] σ3 Y {O with heap:=O.heap.update s.heap.objs.size (Obj.mapSeq λa8=>a8.push y),toks:=O.toks}:=
     (bare I5).turned (λb o l e=>(J3 O.heap _ (Ne.symm l)).trans e) a2 (by rw[eL];exact b6) (.inr (by rw[es];exact Kj _)) a5 (by rw[ep];intro p S;exact nomatch S)
    refine⟨m',hm,i+1,acc++[v],a++[y],_,σ3,Y,I6,T.keep _ _ _ a3 (λb l o e=>(J3 O.heap _ (e1 b l).symm).trans e),a4,a2,qu,Z.append (.cons r5 .nil),w5⟩
 refine codeAny_compStart_list (a6 _ rfl) ?_;exact T.self _ 0 _ _ _ c1 (a6 _ rfl)
theorem bZ{elt tg iter:Expr}{ifs:Lb}{scope:Scope}{pos:Pos}(own:K7)(js:K0){wi:TI}{g:TG}{ti:TT}{te:TE}(hc:X.calm=true)(hk:bE scope X.env.scope)
  (hcap:(js.all λj=>scope.names.contains (X.N.getD j Str.empty,NameKind.free))=true) (hw:PI X tg iter wi)
  (hg:∀s H fp C,PG (X.blk (nr own js X.N) s H scope fp C) tg g) (hi:∀s H fp C,Ft (X.blk (nr own js X.N) s H scope fp C) ifs ti) (he:∀s H fp C,PE (X.blk (nr own js X.N) s H scope fp C) elt te)
  (hs:autoParam (∀x,foldedSetIterable iter X.env x=pure x) zz3._auto_1):PE X (.ListComp elt [⟨tg,iter,ifs,0⟩] scope pos) (xv own.length js wi g ti te):=by
 intro c s σ H Q I h;rw[eval_ListComp];refine wpAny_comprehension_free (use:=none) rfl hs (iM (I.capFree hk)) hk.kind hk.loc (cq (hw c s σ H _ I h) λv s1 h1=>cq h1 λitv s2 h2=>?_);obtain⟨it,fp,tn,J,H2,rfl,O,T,d,f2,L⟩:=h2;refine qL (RR:=λa C=>compPost (model X.prog X.w) X.A X.xe none (EP X c σ Q) a C) (Q:=λa u=>∀l,u l=none->Q (.ref l) (aD u l (.lst a))) hc hk hcap hg hi he O T d f2 L ?_;intro D C z u a m q M R B r p i n k;refine⟨m,B,λh' y=>?_⟩;exact⟨.ref D,_,R.turned (t':=z.toks) (λb o G e=>(y.2 b G).trans e) r p (.inr i) n k,rfl,q D M⟩
theorem dS{i:Nat}{x:Str}{elt tg iter:Expr}{ifs:Lb}{scope:Scope}{pos spos:Pos}{px:Pos}(own:K7)(js:K0){wi:TI}{g:TG}{ti:TT}{te:TE}(hN:X.N.Nodup)(hxi:X.N[i]?=some x)(hx:Loc X.env.scope x)
  (hsw:swapsWith (.ListComp elt [⟨tg,iter,ifs,0⟩] scope pos) (some (.Name x px)) spos.line X.env=pure true)
  (hc:X.calm=true) (hk:bE scope X.env.scope)
  (hcap:(js.all λj=>scope.names.contains (X.N.getD j Str.empty,NameKind.free))=true) (hw:PI X tg iter wi)
  (hg:∀s H fp C,PG (X.blk (nr own js X.N) s H scope fp C) tg g) (hi:∀s H fp C,Ft (X.blk (nr own js X.N) s H scope fp C) ifs ti) (he:∀s H fp C,PE (X.blk (nr own js X.N) s H scope fp C) elt te)
  (hs:autoParam (∀x,foldedSetIterable iter X.env x=pure x) zz3._auto_1) (hf:autoParam (X.fn x=true\/X.env.scope.names.lookup x=some .local) zz2._auto_1) :
  PS X (.Assign [.Name x px] (.ListComp elt [⟨tg,iter,ifs,0⟩] scope pos) spos) (yO (xv own.length js wi g ti te) (jx i)):=by
 intro c s σ H Dn I h;rw[exec_Assign_Name_used _ _ _ _ hsw];refine q04 (wpAny_standAt (q04 ?_));show wpAny _ _ (do let _ <- comprehension (.ListComp elt [⟨tg,iter,ifs,0⟩] scope pos) scope X.env _ (newList []) false (eval iter X.env) (some (assign (.Name x px) X.env))) _ _ s;refine q04 (q0X (wpAny_comprehension_free (use:=some (assign (.Name x px) X.env)) (Q:=λ_ k=>SP X c Dn .next k) (E:=X.xe) rfl hs (iM (I.capFree hk)) hk.kind hk.loc ?_) (λ_ k q=>q05 (q05 q)) λ_ _ z=>z);refine(cq (hw c s σ H _ I h) λv s1 h1=>cq h1 λitv s2 h2=>?_);obtain⟨it,fp,tn,J,H2,rfl,I2,T,r,f2,hW⟩:=h2;refine qL (RR:=λd C=>compPost (model X.prog X.w) X.A X.xe (some (assign (.Name x px) X.env)) (λ_ k=>SP X c Dn .next k) d C) (Q:=λd S=>∀l,S l=none->jx i (.ref l) σ (aD S l (.lst d)) Dn.nx) hc hk hcap hg hi he I2 T r f2 hW ?_;intro D C k S d m q hD I' U O p G n L;show wpAny _ _ (assign (.Name x px) X.env (.ref D)) _ _ k;refine wpAny_assign_Name (qC I' hN hxi hx (v:=.ref D) rfl (λB R y=>?_) hf);obtain⟨a,y,Z⟩:=y;have M:C≠a:=by
  rcases Z with z | z
  ·rw[z];exact p
  ·exact(n x a z).symm
 refine⟨m,U.sameBut y M,λh' u=>?_⟩;exact⟨_,_,R.turned (t':=B.toks) (λb o Y e=>(u.2 b Y).trans e) O p (.inr G) n L,q D hD⟩
end
section
variable {K:KY}{g:TG}{ti:TT}{te:TE}{σ:St}{H:Hp}{Q:List V->Hp->Prop}
theorem gR{J:It}{n:Nat}(Pv:Nat->List V->St->Hp->Prop)(h0:Pv 0 [] σ H)(hz:∀i acc σ H,Pv i acc σ H->acc.length<sizeLine)(hi:∀i acc σ H,Pv i acc σ H->i<=n)
  (stop:∀acc σ H,Pv n acc σ H->J.stop n H) (go:∀i acc σ H,i<n->Pv i acc σ H->J.go i H)
  (hs:∀i x acc σ H H2,i<n->Pv i acc σ H->J.yld i H x H2->g x σ H2 λσ2 H3=>ti σ2 H3 λb H4=>if b=true then te σ2 H4 λv H5=>Pv (i+1) (acc++[v]) σ2 H5 else Pv (i+1) acc σ2 H4)
  (he:∀acc σ H,Pv n acc σ H->Q acc H) :
  eR J g ti te σ H Q:=by
 refine⟨λi m acc σ H=>Pv i acc σ H/\m=n+1-i,⟨n+1,h0,rfl⟩,?_⟩;rintro i m acc σ' a ⟨w,rfl⟩;refine⟨hz i acc σ' a w,?_⟩;have hle:=hi i acc σ' a w;rcases Nat.lt_or_ge i n with c | hge
 ·refine .inr ⟨go i acc σ' a c w,λacc' σ2 H2=>Pv (i+1) acc' σ2 H2,λacc' σ2 H2 w2=>⟨n+1-(i+1),?_,w2,rfl⟩,λx H2 y=>hs i x acc σ' a H2 c w y⟩
  have:=hi (i+1) acc' σ2 H2 w2;omega
 ·have e:i=n:=by omega
  subst e;exact .inl ⟨stop acc σ' a w,he acc σ' a w⟩
theorem dR{a:Addr}{xs:List V}(Pv:Nat->List V->St->Hp->Prop)(h0:Pv 0 [] σ H)(hz:∀i acc σ H,Pv i acc σ H->acc.length<sizeLine)(hi:∀i acc σ H,Pv i acc σ H->i<=xs.length)
  (hl:∀i acc σ H,Pv i acc σ H->aN K H a xs)
  (hs:∀i x acc σ H,xs[i]?=some x->Pv i acc σ H->g x σ H λσ2 H3=>ti σ2 H3 λb H4=>if b=true then te σ2 H4 λv H5=>Pv (i+1) (acc++[v]) σ2 H5 else Pv (i+1) acc σ2 H4)
  (he:∀acc σ H,Pv xs.length acc σ H->Q acc H):eR (An K a) g ti te σ H Q:=by
 exact gR (J:=An K a) (g:=g) (ti:=ti) (te:=te) (Q:=Q) (n:=xs.length) Pv h0 hz hi (λacc σ H w=>⟨xs,hl _ _ _ _ w,Kj _⟩)
  (λi acc σ H hlt w=>⟨xs,xs[i],hl _ _ _ _ w,JW hlt⟩) (λi x acc σ H H2 hlt w y=>by obtain⟨rfl,c⟩:=y;exact hs i x acc σ H2 (c xs (hl _ _ _ _ w)) w) he
theorem jW{lo:Int}{n:Nat}(Pv:Nat->List V->St->Hp->Prop)(h0:Pv 0 [] σ H)(hz:∀i acc σ H,Pv i acc σ H->acc.length<sizeLine)(hi:∀i acc σ H,Pv i acc σ H->i<=n)
  (hs:∀i acc σ H,i<n->Pv i acc σ H->g (.int (lo+i)) σ H λσ2 H3=>ti σ2 H3 λb H4=>if b=true then te σ2 H4 λv H5=>Pv (i+1) (acc++[v]) σ2 H5 else Pv (i+1) acc σ2 H4)
  (he:∀acc σ H,Pv n acc σ H->Q acc H):eR (yS lo n) g ti te σ H Q:=by
 exact gR (J:=yS lo n) (g:=g) (ti:=ti) (te:=te) (Q:=Q) (n:=n) Pv h0 hz hi (λacc σ H w=>Kj _) (λi acc σ H hlt w=>hlt) (λi x acc σ H H2 hlt w y=>by obtain⟨rfl,rfl⟩:=y;exact hs i acc σ H2 hlt w) he
end
structure dG(P:K6)(w:K9)(K:KY)(mg:K4)(base:Heap)(CX:j4)(k:Nat)(x:Str)(ps:K7)(sp:Sp):Prop where
 ex:∃(f:Addr) (fd:K5),br P w K mg base CX k f fd ps sp/\mg x=some (.ref f)/\PySem.W.keepIn K (.ref f)=true/\dL K fd ps []
structure NB(mg:K4):Prop where
 len:mg "len"=none
 range:mg "range"=none
 list:mg "list"=none
 tuple:mg "tuple"=none
 isinstance:mg "isinstance"=none
 int:mg "int"=none
 bool:mg "bool"=none
 str:mg "str"=none
 reversed:mg "reversed"=none
 all:mg "all"=none
 enumerate:mg "enumerate"=none
 zip:mg "zip"=none
 sorted:mg "sorted"=none
 set:mg "set"=none
 dict:mg "dict"=none
 min:mg "min"=none
 max:mg "max"=none
 sum:mg "sum"=none
 ValueError:mg "ValueError"=none
section
variable {X:Cx}{CX:j4}{k:Nat}{x:Str}{ps:K7}{sp:Sp}{E:XK}{p pos:Pos}{e:Expr}{es:Lb}{t:TA}
theorem aG(C:dG X.prog X.w X.K X.mg X.base CX k x ps sp)(hr:c3 k X.A)(hg:Gl X x)(hx:dy CX X E)(ha:PA X (e::es) t)(hdb:autoParam ((x==("__debug__":Str))=false) zz4._auto_1)
  (hst:autoParam (starEach (e::es) X.env=(false,eval e X.env)::starEach es X.env) zz0._auto_1) (hpl:autoParam ((backTo pos (starEach es X.env)).any (·.1)=false) zz0._auto_1):PE X (.Call (.Name x p) (e::es) [] pos) (lV sp [] E t):=by
 obtain⟨f,fd,F,a,b,c⟩:=C.ex;exact B5 F hr hg a b c .nil hx ha hdb hst hpl
theorem q00{j:Nat}(C:dG X.prog X.w X.K X.mg X.base bD k x ps sp)(hr:c3 j X.A)(ha:PA X (e::es) t)(hk:autoParam (k<=j) zz1._auto_1)(hg:autoParam (Gl X x) zz0._auto_1)(hdb:autoParam ((x==("__debug__":Str))=false) zz4._auto_1)
  (hst:autoParam (starEach (e::es) X.env=(false,eval e X.env)::starEach es X.env) zz0._auto_1) (hpl:autoParam ((backTo pos (starEach es X.env)).any (·.1)=false) zz0._auto_1):PE X (.Call (.Name x p) (e::es) [] pos) (lV sp [] E0 t):=aG C (hr.mono hk) hg aJ ha hdb hst hpl
end
section
variable {X:Cx}{tg:Expr}
def z_(_ j:Int):Prop:=0<j/\j<18446744073709551616
theorem bd:bj X (binaryOp .FloorDiv) (rI z_ λi j=>.int (i/j)):=Gj λi j _ _ _ _ _ hc q=>by
 have h1:(0:Int)<j:=hc.1;have h2:j<18446744073709551616:=hc.2;refine floordiv_int ⋯ (by rw[Int.fdiv_eq_ediv_of_nonneg i ⋯];exact q) (.inl (PyProof.noPylong_of_log2 ?_));have h64:j.natAbs.log2<64:=(Nat.log2_lt ⋯).mpr ⋯;omega
theorem hU:∀{ys:K7} {us:K2},bp (ys.map V.str) us->StrsAre us ys
 | [],_,.nil=>.nil
 |y::ys,_,.cons r t=>by
  obtain⟨tk,rfl⟩:=r;exact .cons y tk (hU t)
def tL(K:KY):V->List V->Hp->VK->Prop:=λx xs H Q=>∃z p ys,x=.str z/\xs=[.ref p]/\(aN K H p (ys.map V.str)\/dt K H p (ys.map V.str))/\(ys.map (·.length)).sum+ys.length*z.length<=16777216/\Q (.str (Txt.join z ys)) H
theorem C5:GK X "str.join" (tL X.K):=by
 intro pins s σ H x xs v us Q I rx rv h;obtain⟨z,p,ys,rfl,rfl,hs,d,q⟩:=h;obtain⟨t,rfl⟩:=rx;obtain⟨u,rfl,e⟩:=rv.one;cases e;rcases hs with hs | hs
 ·obtain⟨c,r,b,_⟩:=I.list hs
  exact join_list b.isList (by simpa using hU r) d λa k=>⟨.str _,H,I.tok k,⟨a,rfl⟩,q⟩
 ·obtain⟨c,r,b,_⟩:=I.tuple hs
  exact join_tuple b (by simpa using hU r) d λa k=>⟨.str _,H,I.tok k,⟨a,rfl⟩,q⟩
def E8(x:Str):It:=⟨λi _=>i<x.cps.size,λi H v H'=>H'=H/\∃c,x.cps[i]?=some c/\v=.str ⟨#[c]⟩,λi _=>x.cps.size<=i⟩
theorem Bh{P:K6}{w:K9}{K:KY}{tg:Expr}(x:Str)(t:Tok)(it:Addr):rQ P w K tg (E8 x) [it] it (λi h=>h.IsStrIter it (strIterType x) x t i) where
 mem:=by simp
 obj:=λi h g b l=>by
  have e:b=it:=by simpa using l
  subst e;obtain⟨o,e,c,d⟩:=g;exact⟨o,e,λv z=>by rw[d]at z;cases z⟩
 keep:=λi h m g k=>by
  obtain⟨o,e,c,d⟩:=g;exact⟨o,k it (by simp) o e,c,d⟩
 item:=by
  intro X M G O L i j s σ H E I hf g hg;subst M G O;obtain⟨D,C,f2,B,y,r⟩:=hf it (by simp);have J:i<x.cps.size:=hg;have p:x.cps[i]?=some x.cps[i]:=Array.getElem?_eq_getElem J;have fin:∀m,m.IsStrIter it (strIterType x) x t (i+1)->Heap.SameBut it s.heap m->∃u,(some (Value.str ⟨#[x.cps[i]]⟩ s.toks))=some u /\
    wpAny (model X.prog X.w) X.A (letOwnedTupleGo tg (.ref it) u) (λ_ S=>∃v H',Inv X j σ H' S/\bF v u/\(E8 x).yld i H v H'/\S.heap.IsStrIter it (strIterType x) x t (i+1)/\∀b∈[it],H' b=none) E {s with heap:=m,toks:=s.toks+1}:=λm q T=>by
   have U:Inv X j σ H {s with heap:=m,toks:=s.toks+1}:=I.turned (λb o l e=>(T.2 b l).trans e) D C B y r;obtain⟨o,e,c,d⟩:=id q;refine⟨_,rfl,uk (s:={s with heap:=m,toks:=s.toks+1}) e c d ?_ ⟨.str ⟨#[x.cps[i]]⟩,H,U,⟨_,rfl⟩,⟨rfl,_,p,rfl⟩,q,λb l=>(hf b l).1⟩⟩;unfold strIterType
   split<;>decide
  cases n:x.cps.all (· < 128) with
  |true=>
   have a:strIterType x="str_ascii_iterator":=by unfold strIterType;rw[n];rfl
   rw[a]at g fin ⊢;exact wpAny_pyNext_ascii_item g p fin
  |false=>
   have a:strIterType x="str_iterator":=by unfold strIterType;rw[n];rfl
   rw[a]at g fin ⊢;exact wpAny_pyNext_wide_item g p fin
 done:=by
  intro X M G O L i j s σ H E I hf g hg;subst M G O;obtain⟨D,C,f2,B,y,r⟩:=hf it (by simp);have J:x.cps.size<=i:=hg;have p:x.cps[i]?=none:=Array.getElem?_eq_none J;cases n:x.cps.all (· < 128) with
  |true=>
   have a:strIterType x="str_ascii_iterator":=by unfold strIterType;rw[n];rfl
   rw[a]at g;exact wpAny_pyNext_ascii_end (I.ok.hd L) g p λm R=>⟨rfl,I.turned (t':=s.toks) (λb o l e=>R b o l e) D C B y r⟩
  |false=>
   have a:strIterType x="str_iterator":=by unfold strIterType;rw[n];rfl
   rw[a]at g;exact wpAny_pyNext_wide_end (I.ok.hd L) g p λm R=>⟨rfl,I.turned (t':=s.toks) (λb o l e=>R b o l e) D C B y r⟩
 self:=λA i s Q E g h=>by
  cases n:x.cps.all (· < 128) with
  |true=>
   have a:strIterType x="str_ascii_iterator":=by unfold strIterType;rw[n];rfl
   rw[a]at g;exact wpAny_pyIter_striter_ascii g h
  |false=>
   have a:strIterType x="str_iterator":=by unfold strIterType;rw[n];rfl
   rw[a]at g;exact wpAny_pyIter_striter_wide g h
def EX(tl:TE):TI:=λσ H R=>tl σ H λv H1=>∃x,v=.str x/\R (E8 x) H1
theorem AL{l:Expr}{tl:TE}(hl:PE X l tl):PI X tg l (EX tl):=by
 intro a s σ H R I h;refine cq (hl a s σ H _ I h) λv c ⟨x,H1,d,g,i⟩=>?_;obtain⟨x,rfl,q⟩:=i;obtain⟨t,rfl⟩:=g;refine wpAny_pyIter_strU ?_;refine⟨c.heap.objs.size,[c.heap.objs.size],_,_,H1,rfl,d.kept (t':=c.toks) λb o e=>JY _ e,Bh x t _,⟨_,J4 _ rfl,rfl,rfl⟩,λb j=>?_,q⟩;have e:b=c.heap.objs.size:=by simpa using j
 subst e;exact d.fpOk (Kj _) (d.hok.fresh (Kj _))
def Gf(K:KY)(a:Addr)(n:Nat):It:=
 ⟨λi H=>∃xs x,aN K H a xs/\i<n/\xs[n-1-i]?=some x,λi H x H'=>H'=H/\∀xs,aN K H a xs->xs[n-1-i]?=some x,λi _=>i=n⟩
theorem Ae{P:K6}{w:K9}{K:KY}{tg:Expr}(a it:Addr)(n:Nat):rQ P w K tg (Gf K a n) [it] it (λi h=>h.IsRevIter it a ((n:Int)-1-(i:Int))) where
 mem:=by simp
 obj:=λi h g b m=>by
  have e:b=it:=by simpa using m
  subst e;obtain⟨o,e,c,d⟩:=g;exact⟨o,e,λv z=>by rw[d]at z;cases z⟩
 keep:=λi h r g k=>g.at λo e=>k it (by simp) o e
 item:=by
  intro X B y C T i j s σ H E I hf g hg;subst B y C;obtain⟨xs,x,R,S,O⟩:=hg;obtain⟨its,Y,p,hz⟩:=I.list R;obtain⟨u,hu,Z⟩:=Y.get O;obtain⟨M,L,f2,J,G,D⟩:=hf it (by simp);have e:(n:Int)-1-(i:Int)=((n-1-i:Nat):Int):=by omega
  have q:=g;rw[e]at q;refine wpAny_pyNext_rev_item q p.isList (x:=u) (by simpa using hu) λr l U=>?_;have e2:((n-1-i:Nat):Int)-1=(n:Int)-1-((i+1:Nat):Int):=by omega
  rw[e2]at l;have I1:Inv X j σ H {s with heap:=r }:=I.turned (t':=s.toks) (λb o m e=>(U.2 b m).trans e) M L J G D;obtain⟨o,e,c,d⟩:=id l;exact⟨u,rfl,uk (s:={s with heap:=r }) e c d (by decide) ⟨x,H,I1,Z,⟨rfl,λys hy=>by rw[I.list_inj hy R];exact O⟩,l,λb m=>(hf b m).1⟩⟩
 done:=by
  intro X B y C T i j s σ H E I hf g hg;subst B y C;obtain⟨M,L,f2,J,G,D⟩:=hf it (by simp);have S:i=n:=hg;subst S;have e:(i:Int)-1-(i:Int) = -1:=by omega
  rw[e]at g;exact wpAny_pyNext_rev_end (I.ok.hd T) g λr eb=>⟨rfl,I.turned (t':=s.toks) (λb o m e=>eb b o m e) M L J G D⟩
 self:=λ_ _ _ _ _ g h=>wpAny_pyIter_revIter g h
def Cp(K:KY)(ta:TA):TI:=λσ H R=>ta σ H λvs H1=>∃a xs,vs=[.ref a]/\aN K H1 a xs/\R (Gf K a xs.length) H1
theorem AO{a:Expr}{ta:TA}{p pos:Pos}(hg:Gl X "reversed")(hm:X.mg "reversed"=none)(ha:PA X [a] ta)(hs:autoParam (starEach [a] X.env=[(false,eval a X.env)]) zz0._auto_1):PI X tg (.Call (.Name "reversed" p) [a] [] pos) (Cp X.K ta):=by
 intro d s σ H R I h;refine Call_ (eG I hg hm boot_reversed (PyProof.Rows.callWith_type1 (cq (ha pos d s σ H _ I h) λus c ⟨vs,H1,j,v,w⟩=>?_) hs rfl));obtain⟨l,g,rfl,y,q⟩:=w;obtain⟨u,rfl,r⟩:=v.one;cases r;obtain⟨k,n,x,hz⟩:=j.list y;have i:=n.length;refine call_reversed_list x.isList ?_;have B:k.toArray.size=g.length:=by rw[J5,i]
 rw[B];have C:Inv X d σ H1 {c with heap:=c.heap.push (revObj l ((g.length:Int)-1))}:=j.kept (t':=c.toks) λb o e=>JY _ e;have m:(c.heap.push (revObj l ((g.length:Int)-1))).IsRevIter c.heap.objs.size l ((g.length:Int)-1-((0:Nat):Int)):=⟨_,J4 _ rfl,rfl,by simp[revObj]⟩;refine wpAny_pyIter_revIter m ?_;refine⟨c.heap.objs.size,[c.heap.objs.size],_,_,H1,rfl,C,Ae l _ g.length,m,λb z=>?_,q⟩;have e:b=c.heap.objs.size:=by simpa using z
 subst e;exact j.fpOk (Kj _) (j.hok.fresh (Kj _))
def DZ:V->Option Int->Option Int->Hp->VK->Prop:=λx lo hi H Q=>∃z,x=.str z/\z.length<=sizeLine/\Q (.str (Txt.slice z lo hi)) H
theorem jN:GL X DZ:=by
 intro a s σ H x v vl vu lo hi sl Q I rx hs pl pu h;obtain⟨z,rfl,b,q⟩:=h;obtain⟨t,rfl⟩:=rx;have fin:∀c k,EP X a σ Q (.str (Txt.slice z lo hi) c) {s with toks:=k}:=λc k=>⟨.str _,H,I.tok k,⟨c,rfl⟩,q⟩;refine⟨"str",_,F.slot_str_getitem.lookup,typeIs_str _ _ _,?_⟩;cases pl with
 |none=>
  cases pu with
  |none=>exact wpAny_getItem_str_slice (l:=none) (u:=none) (st:=none) hs rfl (post_val_or_str ⟨Ks (Txt.slice_le z _ _) b,fin⟩)
  |int j uj=>exact wpAny_getItem_str_slice (l:=none) (u:=some (j,uj)) (st:=none) hs rfl (post_val_or_str ⟨Ks (Txt.slice_le z _ _) b,fin⟩)
 |int i ui=>
  cases pu with
  |none=>exact wpAny_getItem_str_slice (l:=some (i,ui)) (u:=none) (st:=none) hs rfl (post_val_or_str ⟨Ks (Txt.slice_le z _ _) b,fin⟩)
  |int j uj=>exact wpAny_getItem_str_slice (l:=some (i,ui)) (u:=some (j,uj)) (st:=none) hs rfl (post_val_or_str ⟨Ks (Txt.slice_le z _ _) b,fin⟩)
def Go(sep:Str)(ta:TA):TE:=λσ H Q=>ta σ H λvs H1=>∃x,vs=[.str x]/\x.length<=1000/\sep.length<=1000/\Q (.str (Txt.join sep (x.cps.toList.reverse.map λc=>(⟨#[c]⟩:Str)))) H1
theorem nJ{e:Expr}{ta:TA}{sep:Str}{j:Nat}{p0 ap p1 p2 cpos:Pos}(hc:X.calm=true)(hg:Gl X "reversed")(hm:X.mg "reversed"=none)(ha:PA X [e] ta)
  (hfew:autoParam (((backTo cpos (starEach [.Call (.Name "reversed" p1) [e] [] p2] X.env)).all (λx=>!x.1)&&(backToKw cpos (keywordEach [] X.env)).all (λx=>x.1.isSome)
   && decide ([Expr.Call (.Name "reversed" p1) [e] [] p2].length+([]:List Keyword).length+(if([]:List Keyword).isEmpty then 0 else 1)<30))=true) zz0._auto_1)
  (hline:autoParam ((ap.endLine==cpos.line)=true) zz0._auto_1) (hs:autoParam (starEach [e] X.env=[(false,eval e X.env)]) zz0._auto_1) :
  PE X (.Call (.Attribute (.Constant (.str sep) j p0) "join" ap) [.Call (.Name "reversed" p1) [e] [] p2] [] cpos) (Go sep ta):=by
 intro c s σ H Q I h;refine wpAny_Call_method_late rfl hfew hline rfl (cq (jJ (X:=X) c s σ H (λv H1=>v=.str sep/\H1=H) I ⟨rfl,rfl⟩) λv l ⟨x,H1,n,y,D⟩=>?_);obtain⟨rfl,rfl⟩:=D;obtain⟨t0,rfl⟩:=y;refine⟨"str",_,F.plainAttrs_str,F.slot_str_join,F.type_str_join,typeIs_str _ _ _,(λa z=>nomatch z),?_⟩;refine Calls.callWith_builtin rfl (Calls.evalArgs_plain ?_);show wpAny _ _ (spliced ((false,eval (.Call (.Name "reversed" p1) [e] [] p2) X.env)::[])) _ _ l;refine Calls.spliced_cons ?_;refine Call_ (eG n hg hm boot_reversed (PyProof.Rows.callWith_type1 (cq (ha p2 c l σ H1 _ n h) λus d ⟨vs,H2,i,w,B⟩=>?_) hs rfl));obtain⟨x,rfl,C,g,q⟩:=B;obtain⟨u,rfl,r⟩:=w.one;obtain⟨t,rfl⟩:=r;have hsl:sizeLine=16777216:=q0W;refine j_ ⋯ (Calls.spliced_nil ?_);have m:Inv X c σ H2 {d with heap:=d.heap.push (vT x t ((x.length:Int)-1)),toks:=d.toks+1+1}:=i.kept λb o e=>JY _ e;have J:=i.fpOk (b:=d.heap.objs.size) (H':=H2) (Kj _) (i.hok.fresh (Kj _));obtain⟨S,R,f2,O,M,L⟩:=J;refine AT (m.ok.hd hc) (I:=d.heap.objs.size) (x:=x) (t:=t) ⟨_,J4 _ rfl,rfl,rfl⟩ C g λp t' k keep U Y T=>?_;obtain⟨h',g',d',k',o'⟩:=p;cases U;cases Y;cases T;exact⟨.str _,H2,m.turned (t':=k) (λb o G e=>keep b o G e) S R O M L,⟨t',rfl⟩,q⟩
def C7:V->Value
 | .ty n=>.type n
 | .ref a=>.ref a
 |_=>.none
def tG:V->Bool
 | .ty _=>true
 | .ref _=>true
 |_=>false
theorem C4{c:V}{u:Value}(r:bF c u)(h:tG c=true):u=C7 c:=by
 cases c with
 |ty n=>exact r
 |ref a=>exact r
 |_=>cases h
def Dj(K:KY):List V->Hp->VK->Prop:=λxs H Q=>∃x c t b,xs=[x,c]/\tG c=true/\jq K H x t/\PySem.W.kitOne K t (C7 c)=some b/\Q (.bl b) H
theorem b5:eQ X (.builtin "isinstance") (Dj X.K):=by
 intro pins s σ H xs us Q I r h;obtain⟨x,c,t,b,rfl,i,ty,e,q⟩:=h;obtain⟨u,v,rfl,g,d⟩:=r.two;rw[C4 d i];exact zd I g ty e λa=>⟨.bl b,H,I.tok a,rfl,q⟩
theorem iH(K:KY)(n:String):PySem.W.kitOne K (.type n) (.type n)=some true:=by
 unfold PySem.W.kitOne;rw[q07 (beq_self_eq_true _)]
inductive Dt where
 |non | bl (b:Bool) | int (i:Int) | str (x:Str) | lst (ds:List Dt) | tup (ds:List Dt)
mutual
def ki(K:KY)(H:Hp):Dt->V->Prop
 | .non,v=>v=.non
 | .bl b,v=>v=.bl b
 | .int i,v=>v=.int i
 | .str x,v=>v=.str x
 | .lst ds,v=>∃a xs,v=.ref a/\aN K H a xs/\eF K H ds xs
 | .tup ds,v=>∃a xs,v=.ref a/\dt K H a xs/\eF K H ds xs
def eF(K:KY)(H:Hp):List Dt->List V->Prop
 | [],xs=>xs=[]
 |d::ds,xs=>∃x r,xs=x::r/\ki K H d x/\eF K H ds r
end
mutual
def Dt.dep:Dt->Nat
 | .lst ds=>Dt.deps ds+1
 | .tup ds=>Dt.deps ds+1
 |_=>0
def Dt.deps:List Dt->Nat
 | []=>0
 |d::ds=>max (Dt.dep d) (Dt.deps ds)
end
theorem eF.length{K:KY}{H:Hp}:∀{ds:List Dt} {xs:List V},eF K H ds xs->xs.length=ds.length
 | [],_,h=>by unfold eF at h;rw[h];rfl
 |d::ds,xs,h=>by
  unfold eF at h;obtain⟨x,r,rfl,_,h2⟩:=h;simp[eF.length h2]
theorem eF.get{K:KY}{H:Hp}:∀{ds:List Dt} {xs:List V} {j:Nat} {x:V},eF K H ds xs->xs[j]?=some x->∃d,ds[j]?=some d/\ki K H d x
 | [],_,_,_,h,e=>by unfold eF at h;rw[h]at e;simp at e
 |d::ds,xs,j,x,h,e=>by
  unfold eF at h;obtain⟨y,r,rfl,h1,h2⟩:=h;cases j with
  |zero=>simp at e;subst e;exact⟨d,rfl,h1⟩
  |succ j=>
   obtain⟨d',e1,e2⟩:=eF.get (j:=j) h2 (by simpa using e);exact⟨d',by simpa using e1,e2⟩
theorem iX:∀{ds:List Dt} {j:Nat} {d:Dt},ds[j]?=some d->d.dep<=Dt.deps ds
 | [],_,_,e=>by simp at e
 |d'::ds,0,d,e=>by simp at e;subst e;unfold Dt.deps;omega
 |d'::ds,j+1,d,e=>by
  have:=iX (ds:=ds) (j:=j) (by simpa using e);unfold Dt.deps;omega
theorem gE(n:Nat):(List.range n).all (λ_=>true)=true:=by simp
theorem A8{pins:KZ}{σ:St}{H:Hp}{s:K1}(I:Inv X pins σ H s):∀(n:Nat) (d:Dt) (A:K8) {v u:V} {vv uu:Value},d.dep<=n->A.units+n<cLine->ki X.K H d v->ki X.K H d u->bF v vv->bF u uu->SeqAt.EqAt A s vv uu true:=by
 intro n
 induction n with
 |zero=>
  intro d A v u vv uu S hA h1 h2 l k;cases d with
  |non=>unfold ki at h1 h2;subst h1 h2;have:=fH (A:=A) (s:=s) l k rfl rfl;exact this
  |bl b=>unfold ki at h1 h2;subst h1 h2;have:=fH (A:=A) (s:=s) l k rfl rfl;simpa[uf]using this
  |int i=>unfold ki at h1 h2;subst h1 h2;have:=fH (A:=A) (s:=s) l k rfl rfl;simpa[uf]using this
  |str x=>unfold ki at h1 h2;subst h1 h2;have:=fH (A:=A) (s:=s) l k rfl rfl;simpa[uf]using this
  |lst ds=>unfold Dt.dep at S;omega
  |tup ds=>unfold Dt.dep at S;omega
 |succ n ih=>
  intro d A v u vv uu S hA h1 h2 l k;cases d with
  |non=>unfold ki at h1 h2;subst h1 h2;have:=fH (A:=A) (s:=s) l k rfl rfl;exact this
  |bl b=>unfold ki at h1 h2;subst h1 h2;have:=fH (A:=A) (s:=s) l k rfl rfl;simpa[uf]using this
  |int i=>unfold ki at h1 h2;subst h1 h2;have:=fH (A:=A) (s:=s) l k rfl rfl;simpa[uf]using this
  |str x=>unfold ki at h1 h2;subst h1 h2;have:=fH (A:=A) (s:=s) l k rfl rfl;simpa[uf]using this
  |lst ds=>
   unfold ki at h1 h2;obtain⟨a,J,rfl,ha,o⟩:=h1;obtain⟨b,D,rfl,hb,m⟩:=h2;cases l;cases k
   by_cases p:a=b
   ·subst p;exact SeqAt.EqAt.same _
   ·unfold Dt.dep at S
    obtain⟨g,O,pa,_⟩:=I.list ha;obtain⟨c,M,Z,_⟩:=I.list hb;have l1:=O.length;have l2:=M.length;have l3:=o.length;have l4:=m.length
    have a0:g.toArray.size=c.toArray.size:=by simp;omega
    have q:=SeqAt.RcAt.lists (A:=A) (s:=s) (e:=λ_=>true) pa.isList Z.isList a0 ⋯ λj g1 g2=>by
     have C:j<g.length:=by simpa using g1
     have B:j<c.length:=by simpa using g2
     have L:J[j]?=some J[j]:=JW ⋯;have G:D[j]?=some D[j]:=JW ⋯;obtain⟨d,Y,z⟩:=o.get L;obtain⟨d',U,y⟩:=m.get G;rw[Y]at U;cases U
     obtain⟨w1,T,w⟩:=O.get L;obtain⟨w2,f2,r⟩:=M.get G;rw[JW C]at T;rw[JW B]at f2;cases T;cases f2
     have R:=iX Y;simp only[KM];exact ih d A.in1 ⋯ (by show A.units+1+n<cLine;omega) z y w r
    rw[gE]at q;exact SeqAt.EqAt.of_refs p q
  |tup ds=>
   unfold ki at h1 h2;obtain⟨a,J,rfl,ha,o⟩:=h1;obtain⟨b,D,rfl,hb,m⟩:=h2;cases l;cases k
   by_cases p:a=b
   ·subst p;exact SeqAt.EqAt.same _
   ·unfold Dt.dep at S
    obtain⟨g,O,pa,_⟩:=I.tuple ha;obtain⟨c,M,Z,_⟩:=I.tuple hb;have l1:=O.length;have l2:=M.length;have l3:=o.length;have l4:=m.length
    have q:=SeqAt.RcAt.tuples (A:=A) (s:=s) (e:=λ_=>true) (show s.heap.IsTuple a g.toArray from pa) (show s.heap.IsTuple b c.toArray from Z) ⋯ λj g1 g2=>by
     have C:j<g.length:=by simpa using g1
     have B:j<c.length:=by simpa using g2
     have L:J[j]?=some J[j]:=JW ⋯;have G:D[j]?=some D[j]:=JW ⋯;obtain⟨d,Y,z⟩:=o.get L;obtain⟨d',U,y⟩:=m.get G;rw[Y]at U;cases U
     obtain⟨w1,T,w⟩:=O.get L;obtain⟨w2,f2,r⟩:=M.get G;rw[JW C]at T;rw[JW B]at f2;cases T;cases f2
     have R:=iX Y;simp only[KM];exact ih d A.in1 ⋯ (by show A.units+1+n<cLine;omega) z y w r
    have e0:((List.range (min g.toArray.size c.toArray.size)).all (λ_=>true)&&g.toArray.size==c.toArray.size)=true:=by
     rw[gE,Bool.true_and];simp;omega
    rw[e0]at q;exact SeqAt.EqAt.of_refs p q
def CQ(K:KY)(neg:Bool):R2:=λx y H Q=>
 (∃ds,Dt.deps ds<=40/\((ki K H (.lst ds) x/\ki K H (.lst ds) y)\/(ki K H (.tup ds) x/\ki K H (.tup ds) y))/\Q (.bl (!neg)) H) \/
 (∃a b xs ys,x=.ref a/\y=.ref b/\aN K H a xs/\aN K H b ys/\xs.length≠ys.length/\Q (.bl neg) H)
theorem rh(hu:X.A.units+64<cLine):bj X (compareOp .NotEq) (CQ X.K true):=by
 intro r s σ H x y v u Q I rx ry h;rcases h with⟨ds,hd,h,q⟩ | ⟨a,b,o,n,rfl,rfl,C,B,hne,q⟩
 ·have fin:EP X r σ Q (.bool false) s:=⟨.bl false,H,I,rfl,q⟩
  have p:∀{o n:List V} {g c:K2},eF X.K H ds o->eF X.K H ds n->bp o g->bp n c->∀j (h1:j<g.toArray.size) (h2:j<c.toArray.size),SeqAt.EqAt X.A.in1 s g.toArray[j] c.toArray[j] true:=fun{o n g c} k i m l j g1 g2=>by
   have O:=m.length;have M:=l.length;have Z:=k.length;have Y:=i.length
   have S:j<g.length:=by simpa using g1
   have R:j<c.length:=by simpa using g2
   have U:o[j]?=some o[j]:=JW ⋯;have T:n[j]?=some n[j]:=JW ⋯;obtain⟨d,e1,L⟩:=k.get U;obtain⟨d',e2,J⟩:=i.get T;rw[e1]at e2;cases e2
   obtain⟨w1,f1,G⟩:=m.get U;obtain⟨w2,f2,D⟩:=l.get T;rw[JW S]at f1;rw[JW R]at f2;cases f1;cases f2
   have hdep:=iX e1;simp only[KM];exact A8 I 40 d X.A.in1 ⋯ (by show X.A.units+1+40<cLine;omega) L J G D
  rcases h with⟨h1,h2⟩ | ⟨h1,h2⟩
  ·unfold ki at h1 h2
   obtain⟨a,o,rfl,C,k⟩:=h1;obtain⟨b,n,rfl,B,i⟩:=h2;cases rx;cases ry
   obtain⟨g,m,z,_⟩:=I.list C;obtain⟨c,l,w,_⟩:=I.list B;have O:=m.length;have M:=l.length;have Z:=k.length;have Y:=i.length
   have q:=SeqAt.RcNeAt.lists (A:=X.A) (s:=s) (e:=λ_=>true) z.isList w.isList (by simp;omega) ⋯ (p k i m l);rw[gE]at q;exact q _ _ _ _ fin
  ·unfold ki at h1 h2
   obtain⟨a,o,rfl,C,k⟩:=h1;obtain⟨b,n,rfl,B,i⟩:=h2;cases rx;cases ry
   obtain⟨g,m,z,_⟩:=I.tuple C;obtain⟨c,l,w,_⟩:=I.tuple B;have O:=m.length;have M:=l.length;have Z:=k.length;have Y:=i.length
   have q:=SeqAt.RcNeAt.tuples (A:=X.A) (s:=s) (e:=λ_=>true) (show s.heap.IsTuple a g.toArray from z) (show s.heap.IsTuple b c.toArray from w) ⋯ (p k i m l);have e0:((List.range (min g.toArray.size c.toArray.size)).all (λ_=>true)&&g.toArray.size==c.toArray.size)=true:=by
    rw[gE,Bool.true_and];simp;omega
   rw[e0]at q;exact q _ _ _ _ fin
 ·cases rx;cases ry
  obtain⟨g,m,z,_⟩:=I.list C;obtain⟨c,l,w,_⟩:=I.list B;have O:=m.length;have M:=l.length
  exact SeqAt.RcNeAt.lists_lengths z.isList w.isList (by simp;omega) ⋯ _ _ _ _ ⟨.bl true,H,I,rfl,q⟩
end
end L2
namespace aO
abbrev G6:=List Nat
abbrev aO:=List G6
def rect(p:aO)(r c:Nat):Prop:=p.length=r/\∀x∈p,x.length=c
def zC(p:aO)(i j:Nat):Nat:=(p.getD i []).getD j 0
def mirror(p:aO):aO:=p.map List.reverse
def rR(p:aO)(i:Nat):G6:=p.reverse.map λx=>x.getD i 0
def bv(p:aO):aO:=(List.range (p.headD []).length).map (rR p)
def aP:Nat->aO->aO
 |0,p=>p
 |n+1,p=>aP n (bv p)
def turned(p:aO)(t:Nat):aO:=aP (t%4) (if 4<=t then mirror p else p)
theorem Ak{p:aO}{r c i:Nat}(h:rect p r c)(hi:i<r):(p.getD i []).length=c:=by
 have a:i<p.length:=by rw[h.1];exact hi
 rw[q0A,JW a];exact h.2 _ (J6 a)
theorem bc{p:aO}{r c:Nat}(h:rect p r c)(hr:0<r):(p.headD []).length=c:=by
 have:=Ak h hr;cases p with
 |nil=>have:=h.1;simp at this;omega
 |cons x p=>simpa using this
theorem cg{p:aO}{r c:Nat}(h:rect p r c):rect (mirror p) r c:=by
 refine⟨by simp[mirror,h.1],λx b=>?_⟩;obtain⟨y,a,rfl⟩:=KI.mp b;rw[Kd];exact h.2 y a
theorem bR{p:aO}{r c:Nat}(h:rect p r c)(hr:0<r):rect (bv p) c r:=by
 refine⟨by unfold bv;rw[JZ,q0J,bc h hr],λx a=>?_⟩;obtain⟨i,_,rfl⟩:=KI.mp a;simp[rR,h.1]
theorem jc{p:aO}{r c i j:Nat}(h:rect p r c)(hi:i<r)(hj:j<c):zC (mirror p) i j=zC p i (c-1-j):=by
 have a:i<p.length:=by rw[h.1];exact hi
 have b:(p[i]).length=c:=h.2 _ (J6 a);unfold zC mirror;rw[q0A (l:=List.map _ _),J1,JW a,q0A (l:=p),JW a];simp only[Option.map_some,q0L];rw[q0A,List.getElem?_reverse (by rw[b];exact hj),b,q0A]
theorem cL{p:aO}{r c i j:Nat}(h:rect p r c)(hr:0<r)(hi:i<c)(hj:j<r):zC (bv p) i j=zC p (r-1-j) i:=by
 unfold zC bv;rw[bc h hr,q0A (l:=List.map _ _),J1,List.getElem?_range hi];simp only[Option.map_some,q0L];unfold rR;rw[q0A,J1,List.getElem?_reverse (by rw[h.1];exact hj),h.1];have a:r-1-j<p.length:=by rw[h.1];omega
 rw[JW a,q0A (l:=p),JW a]
 rfl
theorem kG{p q:aO}{r c:Nat}(hp:rect p r c)(hq:rect q r c)(h:∀i j,i<r->j<c->zC p i j=zC q i j):p=q:=by
 refine List.ext_getElem (by rw[hp.1,hq.1]) λi h1 h2=>?_;have a:=hp.2 _ (J6 h1);have d:=hq.2 _ (J6 h2);refine List.ext_getElem (by rw[a,d]) λj b g=>?_;have e:=h i j (by rw[<- hp.1];exact h1) (by rw[<- a];exact b);unfold zC at e
 simpa[q0A,JW,h1,h2,b,g]using e
theorem B6(p:aO):mirror (mirror p)=p:=by simp[mirror,Ka,Function.comp_def]
theorem zL{p:aO}{r c:Nat}(h:rect p r c)(hr:0<r)(hc:0<c):bv (bv (bv (bv p)))=p:=by
 have h1:=bR h hr;have h2:=bR h1 hc;have b:=bR h2 hr;have e:=bR b hc;refine kG e h λi j a d=>?_;rw[cL b hc a d,cL h2 hr ⋯ a,cL h1 hc ⋯ ⋯,cL h hr ⋯ ⋯]
 congr 1<;>omega
theorem oE{p:aO}{r c:Nat}(h:rect p r c)(hr:0<r)(hc:0<c):mirror (bv p)=bv (bv (bv (mirror p))):=by
 have m:=cg h;have h1:=bR m hr;have h2:=bR h1 hc;have d:=bR h2 hr;have q:=bR h hr;refine kG (cg q) d λi j a b=>?_;rw[jc q a b,cL h hr a ⋯,cL h2 hr a b,cL h1 hc ⋯ a,cL m hr ⋯ ⋯,jc h ⋯ ⋯]
 congr 1<;>omega
theorem cV:∀(n:Nat) {p:aO} {r c:Nat},rect p r c->0<r->0<c->rect (aP n p) (if n%2=0 then r else c) (if n%2=0 then c else r)
 |0,_,_,_,h,_,_=>h
 |n+1,p,r,c,h,hr,hc=>by
  have:=cV n (bR h hr) hc hr;show rect (aP n (bv p)) _ _
  by_cases e:n%2=0
  ·rw[q07 e,q07 e]at this
   rw[q06 ⋯,q06 ⋯];exact this
  ·rw[q06 e,q06 e]at this
   rw[q07 ⋯,q07 ⋯];exact this
theorem cF{p:aO}{r c:Nat}(h:rect p r c)(hr:0<r)(hc:0<c)(t:Nat):rect (turned p t) (if t%2=0 then r else c) (if t%2=0 then c else r):=by
 unfold turned;have e:t%4%2=t%2:=by omega
 rw[<- e]
 split
 ·exact cV _ (cg h) hr hc
 ·exact cV _ h hr hc
theorem cG(a b:Nat)(p:aO):aP a (aP b p)=aP (b+a) p:=by
 induction b generalizing p with
 |zero=>rw[Nat.zero_add];rfl
 |succ b ih=>show aP a (aP b (bv p))=_;rw[ih,Nat.add_right_comm];rfl
theorem fk{p:aO}{r c:Nat}(h:rect p r c)(hr:0<r)(hc:0<c)(n:Nat):aP n p=aP (n%4) p:=by
 induction n using Nat.strongRecOn generalizing p r c with
 |ind n ih=>
  by_cases a:n<4
  ·rw[Nat.mod_eq_of_lt a]
  ·obtain⟨m,rfl⟩:∃m,n=m+4:=⟨n-4,⋯⟩
   have e:aP (m+4) p=aP m (bv (bv (bv (bv p)))):=rfl;rw[e,zL h hr hc,ih m ⋯ h hr hc]
   congr 1
   omega
theorem iz{p:aO}{r c:Nat}(h:rect p r c)(hr:0<r)(hc:0<c):∀n,mirror (aP n p)=aP (3*n) (mirror p):=by
 intro n
 induction n generalizing p r c with
 |zero=>rfl
 |succ n ih=>
  show mirror (aP n (bv p))=_;rw[ih (bR h hr) hc hr,oE h hr hc];have e:bv (bv (bv (mirror p)))=aP 3 (mirror p):=rfl;rw[e,cG]
  congr 1
  omega
def after(t u:Nat):Nat:=if u<4 then t/4*4+(t+u)%4 else(1-t/4)*4+(u+8-t)%4
def cY(t:Nat):Nat:=if t<4 then(4-t)%4 else t
theorem bX{p:aO}{r c:Nat}(h:rect p r c)(hr:0<r)(hc:0<c){t u:Nat}(ht:t<8)(hu:u<8):turned (turned p t) u=turned p (after t u):=by
 have m:=cg h;unfold turned after
 by_cases h1:4<=t<;>by_cases h2:4<=u
 ·rw[q07 h1,q07 h2,q06 ⋯,q06 ⋯]
  rw[iz m hr hc,B6,cG,fk h hr hc]
  congr 1;omega
 ·rw[q07 h1,q06 h2,q07 ⋯,q07 ⋯]
  rw[cG,fk m hr hc]
  congr 1;omega
 ·rw[q06 h1,q07 h2,q06 ⋯,q07 ⋯]
  rw[iz h hr hc,cG,fk m hr hc]
  congr 1;omega
 ·rw[q06 h1,q06 h2,q07 ⋯,q06 ⋯]
  rw[cG,fk h hr hc]
  congr 1;omega
theorem uZ(p:aO):turned p 0=p:=rfl
theorem gL{t u:Nat}(ht:t<8)(hu:u<8):after t u<8:=by unfold after;split<;>omega
theorem jb{t:Nat}(ht:t<8):cY t<8:=by unfold cY;split<;>omega
theorem v4{t:Nat}(ht:t<8):after t (cY t)=0:=by
 unfold after cY
 by_cases h:t<4
 ·rw[q07 h,q07 ⋯];omega
 ·rw[q06 h,q06 ⋯];omega
theorem we{t:Nat}(ht:t<8):after (cY t) t=0:=by
 unfold after cY
 by_cases h:t<4
 ·rw[q07 h,q07 ⋯];omega
 ·rw[q06 h,q06 ⋯];omega
theorem l_{p:aO}{r c:Nat}(h:rect p r c)(hr:0<r)(hc:0<c){t:Nat}(ht:t<8):turned (turned p t) (cY t)=p:=by
 rw[bX h hr hc ht (jb ht),v4 ht];rfl
end aO
namespace QL
open PySem L2 aO
def tx(r:K0):Str:=⟨r.toArray⟩
def ao(p:aO):List V:=p.map λr=>V.str (tx r)
theorem ax(r:K0):(tx r).length=r.length:=by show r.toArray.size=r.length;simp
theorem dj(r:K0):(tx r).cps.toList=r:=by show r.toArray.toList=r;simp
theorem aj(p:aO):(ao p).length=p.length:=by unfold ao;simp
theorem fA(p:aO):ao p=(p.map tx).map V.str:=by unfold ao;rw[Ka];rfl
theorem ba{p:aO}{i:Nat}(h:i<p.length):(ao p)[i]?=some (V.str (tx p[i])):=by unfold ao;rw[J1,JW h];rfl
theorem cR(p:aO)(r:K0):ao (p++[r])=ao p++[V.str (tx r)]:=by unfold ao;simp
theorem join_nil:∀(ys:List (List Nat)),Txt.join (Str.ofString "") (ys.map tx)=tx ys.flatten
 | []=>rfl
 |y::ys=>by
  have key:∀(zs:List (List Nat)) (a:K0),(zs.map tx).foldl (λacc (p:Str)=>acc++(Str.ofString "").cps++p.cps) a.toArray=(a++zs.flatten).toArray:=by
   intro zs
   induction zs with
   |nil=>intro a;simp
   |cons z zs ih=>
    intro a;rw[Kq,List.foldl_cons];have e:a.toArray++(Str.ofString "").cps++(tx z).cps=(a++z).toArray:=by
     have b:(Str.ofString "").cps=#[]:=rfl;rw[b];show a.toArray ++ #[]++z.toArray=_;simp
    rw[e,ih];simp
  show(⟨(ys.map tx).foldl (λacc (p:Str)=>acc++(Str.ofString "").cps++p.cps) (tx y).cps⟩:Str)=_;show(⟨(ys.map tx).foldl (λacc (p:Str)=>acc++(Str.ofString "").cps++p.cps) y.toArray⟩:Str)=_;rw[key]
  rfl
theorem i4(r:K0):Txt.join (Str.ofString "") (r.map λc=>(⟨#[c]⟩:Str))=tx r:=by
 have e:(r.map λc=>(⟨#[c]⟩:Str))=(r.map λc=>[c]).map tx:=by rw[Ka];rfl
 rw[e,join_nil]
 congr 1
 clear e
 induction r with
 |nil=>rfl
 |cons c r ih=>simp[ih]
def c4(p:aO):Prop:=p.length<=64/\∀r∈p,r.length<=64
theorem c4.of{p:aO}{r c:Nat}(h:rect p r c)(hr:r<=64)(hc:c<=64):c4 p:=⟨by rw[h.1];exact hr,λx hx=>by rw[h.2 x hx];exact hc⟩
theorem aX{n:Nat}(h:n<=1000000):n<sizeLine:=by have:=q0W;omega
theorem au{n:Nat}(h:n<=1000000):n<=sizeLine:=by have:=q0W;omega
theorem ak{H:Hp}{l:Addr}{o:HO}(h:H l=none):aB H (aD H l o):=λb u e=>by rw[ar (aI e h)];exact e
theorem bK{H0 H:Hp}{l:Addr}{o:HO}(s:aB H0 H)(h:H0 l=none):aB H0 (aD H l o):=λb u e=>by rw[ar (aI e h)];exact s b u e
theorem cT{p:aO}{r c i:Nat}(h:rect p r c)(hi:i<r):∃hl:i<p.length,(p[i]).length=c:=⟨by rw[h.1];exact hi,h.2 _ (J6 _)⟩
def gH(H:Hp)(p:aO)(Q:VK):Prop:=∀(l:Addr) (H':Hp),H l=none->H' l=some (.lst (ao p))->aB H H'->Q (.ref l) H'
def cN(ns:List Int)(k:Nat):Int:=ns.getD k 0/2147483647*2147483647+(((ns.getD k 0%2147483647+7919*(k:Int)+1)*48271%2147483647)*69621+(k:Int))%2147483647
theorem qY(K:KY):PySem.W.kitOne K (.type "int") (.type "bool")=some false:=by kernel_rfl
end QL
namespace L2
open PySem PySem.Spec PyProof.Rows
section
variable {X:Cx}
theorem aZ:eQ X (.builtin "len") (λxs H Q=>∃p ys,xs=[.ref p]/\aN X.K H p ys/\Q (.int ys.length) H):=λpins s σ H xs us Q I r ⟨p,ys,e,h,q⟩=>kl pins s σ H xs us Q I r ⟨p,ys,e,.inl h,q⟩
theorem yZ:eQ X (.builtin "len") (λxs H Q=>∃p ys,xs=[.ref p]/\dt X.K H p ys/\Q (.int ys.length) H):=λpins s σ H xs us Q I r ⟨p,ys,e,h,q⟩=>kl pins s σ H xs us Q I r ⟨p,ys,e,.inr h,q⟩
theorem tQ{K:KY}{g:TG}{ti:TT}{te:TE}{σ:St}{H:Hp}{Q:List V->Hp->Prop}{a:Addr}{xs:List V}(Pv:Nat->List V->St->Hp->Prop)(h0:Pv 0 [] σ H)(hz:∀i acc σ H,Pv i acc σ H->acc.length<sizeLine)(hi:∀i acc σ H,Pv i acc σ H->i<=xs.length)
  (hl:∀i acc σ H,Pv i acc σ H->aN K H a xs)
  (hs:∀i x acc σ H,xs.reverse[i]?=some x->Pv i acc σ H->g x σ H λσ2 H3=>ti σ2 H3 λb H4=>if b=true then te σ2 H4 λv H5=>Pv (i+1) (acc++[v]) σ2 H5 else Pv (i+1) acc σ2 H4)
  (he:∀acc σ H,Pv xs.length acc σ H->Q acc H):eR (Gf K a xs.length) g ti te σ H Q:=by
 have c:∀{i:Nat} {x:V},i<xs.length->xs[xs.length-1-i]?=some x->xs.reverse[i]?=some x:=fun{i x} hi e=>by rw[List.getElem?_reverse hi];exact e
 exact gR (J:=Gf K a xs.length) (g:=g) (ti:=ti) (te:=te) (Q:=Q) (n:=xs.length) Pv h0 hz hi (λacc σ H w=>rfl)
  (λi acc σ H hlt w=>⟨xs,xs[xs.length-1-i]'⋯,hl _ _ _ _ w,hlt,JW ⋯⟩) (λi x acc σ H H2 hlt w y=>by obtain⟨rfl,d⟩:=y;exact hs i x acc σ H2 (c hlt (d xs (hl _ _ _ _ w))) w) he
theorem Dh(i j:Int):(yD (.int i) (.int j)=true)=True:=by simp[yD]
theorem eS{a:Expr}{ta:TE}(ha:PE X a ta)(he:∀whole,isTrue a X.env whole=(do let v <- whole;standAt a.pos;holding [v] (truthy v))):PT X a (xG ta):=by
 intro b s σ H Q I h;rw[he];refine q04 (cq (ha b s σ H _ I h) λv s1 ⟨x,H1,d,c,k,e,q⟩=>?_);subst e;cases c;exact q04 (wpAny_standAt (q0Y (wpAny_truthy_bool ⟨H1,d,q⟩)))
def yh(J:It)(g:TG)(tb:TS)(D:g_)(σ:St)(H:Hp):Prop:=∃W:Nat->Nat->St->Hp->Prop,(∃m,W 0 m σ H)/\∀i m σ H,W i m σ H ->
 (J.stop i H/\D.nx σ H)\/(J.go i H/\∃N:St->Hp->Prop,(∀σ' H',N σ' H'->∃m',m'<m/\W (i+1) m' σ' H')/\∀x H',J.yld i H x H'->g x σ H' λσ2 H2=>tb {D with nx:=N,ct:=N,bk:=D.nx} σ2 H2)
def Az(wi:TI)(g:TG)(tb:TS):TS:=λD σ H=>wi σ H λJ H1=>yh J g tb D σ H1
theorem bg{tg iter:Expr}{body:List Stmt}{wi:TI}{g:TG}{tb:TS}{pos:Pos}(hp:PassesOwn (model X.prog X.w) X.A X.env X.xe)(hc:X.calm=true)(hi:PI X tg iter wi)(hg:PG X tg g)(hb:wJ X body tb)
  (hs:autoParam (∀x,foldedSetIterable iter X.env x=pure x) zz3._auto_1):PS X (.For tg iter body [] pos) (Az wi g tb):=Ed hp hc hi hg hb hs
section
variable {K:KY}{g:TG}{tb:TS}{D:g_}{σ:St}{H:Hp}
theorem bQ{a:Addr}{xs:List V}(Pv:Nat->St->Hp->Prop)(h0:Pv 0 σ H)(hl:∀i σ H,i<=xs.length->Pv i σ H->aN K H a xs)
  (hs:∀i x σ H,xs[i]?=some x->Pv i σ H->g x σ H λσ2 H2=>tb {D with nx:=Pv (i+1),ct:=Pv (i+1),bk:=D.nx} σ2 H2) (hd:∀σ H,Pv xs.length σ H->D.nx σ H):yh (An K a) g tb D σ H:=AG Pv h0 hl hs hd
theorem cr{lo:Int}{n:Nat}(Pv:Nat->St->Hp->Prop)(h0:Pv 0 σ H)
  (hs:∀i σ H,i<n->Pv i σ H->g (.int (lo+i)) σ H λσ2 H2=>tb {D with nx:=Pv (i+1),ct:=Pv (i+1),bk:=D.nx} σ2 H2) (hd:∀σ H,Pv n σ H->D.nx σ H):yh (yS lo n) g tb D σ H:=yk Pv h0 hs hd
end
end
theorem aW:bootBuiltins "len"=some (.builtin "len"):=by decide +kernel
theorem fq:bootBuiltins "list"=some (.type "list"):=by decide +kernel
theorem BU:bootBuiltins "tuple"=some (.type "tuple"):=by decide +kernel
theorem BN:bootBuiltins "int"=some (.type "int"):=by decide +kernel
theorem Co:bootBuiltins "bool"=some (.type "bool"):=by decide +kernel
theorem zV:bootBuiltins "str"=some (.type "str"):=by decide +kernel
theorem b_:bootBuiltins "isinstance"=some (.builtin "isinstance"):=by decide +kernel
theorem AC:bootBuiltins "all"=some (.builtin "all"):=by decide +kernel
theorem y4:bootBuiltins "sorted"=some (.builtin "sorted"):=by decide +kernel
theorem Cm:bootBuiltins "dict"=some (.type "dict"):=by decide +kernel
end L2
namespace L2
open PySem PySem.Spec PyProof.Rows
section
variable {X:Cx}{a b c d:Expr}{ta tb tc td:TE}{pos:Pos}
def D9(K:KY):List V->Hp->VK->Prop:=λxs H Q=>∃(p:Addr) (bs:List Bool),xs=[.ref p]/\aN K H p (bs.map V.bl)/\Q (.bl (bs.all id)) H
theorem xq:∀{bs:List Bool} {us:K2} {i:Nat} {u:Value},bp (bs.map V.bl) us->us[i]?=some u->∃k,bs[i]?=some k/\u=.bool k
 | [],_,_,_,.nil,e=>by simp at e
 |k::bs,_,0,u,.cons r _,e=>by simp at e;subst e;exact⟨k,rfl,r⟩
 |k::bs,_,i+1,u,.cons _ t,e=>by
  obtain⟨k',h1,h2⟩:=xq (i:=i) t (by simpa using e);exact⟨k',by simpa using h1,h2⟩
theorem yI(bs:List Bool):((List.range bs.length).all λi=>(bs[i]?).getD true)=bs.all id:=by
 rw[Bool.eq_iff_iff,KJ,KJ]
 constructor
 ·intro h x c
  obtain⟨i,b,e⟩:=List.getElem_of_mem c;have q:=h i (List.mem_range.mpr b);rw[JW b,q0L,e]at q;exact q
 ·intro h i b
  have a:=List.mem_range.mp b;rw[JW a,q0L];exact h _ (J6 a)
theorem tN(hc:X.calm=true):eQ X (.builtin "all") (D9 X.K):=by
 intro pins s σ H xs us Q I r h;obtain⟨p,bs,rfl,x,q⟩:=h;obtain⟨u,rfl,w⟩:=r.one;cases w;obtain⟨a,m,d,_⟩:=I.list x;have g:p<s.heap.objs.size:=by obtain⟨_,e,_⟩:=d.isList;exact Km e
 have c:a.length=bs.length:=by rw[<- m.length,JZ]
 refine call_all_walk (wpAny_pyIter_list d.isList ?_);refine⟨s.heap.objs.size,[s.heap.objs.size,p],[s.heap.objs.size],a.toArray.size,_,_,λi=>(bs[i]?).getD true,rfl,Walks.list (A:=X.A.in1) (I.ok.hd hc) _ p (Kf g) a.toArray,
  ⟨⟨_,J4 _ rfl,rfl,rfl⟩,d.isList.push _⟩,λi v s' Q' E' B j=>?_,λh' n z=>?_⟩
 ·obtain⟨k,e,rfl⟩:=xq (i:=i) m (by simpa using B)
  dsimp only at j;rw[e,q0L]at j;exact wpAny_truthy_bool j
 ·have e:((List.range a.toArray.size).all λi=>(bs[i]?).getD true)=bs.all id:=by rw[J5,c];exact yI bs
  rw[e];exact⟨.bl _,H,I.kept (t':=n) λb o l=>z b o (λy=>by rw[J0.mp y]at l;exact Kt _ (Km l)) (JY _ l),rfl,q⟩
end
end L2
namespace QL
open PySem L2 aO PySem.Builtin PySem.Builtin.Str
theorem vE(row:K0)(i k:Nat)(h:i+k<=row.length):((List.range k).map λm=>i+m).filterMap (λj=>row[j]?)=(row.drop i).take k:=by
 rw[List.filterMap_map]
 induction k with
 |zero=>simp
 |succ k ih=>
  rw[q0M,List.filterMap_append,ih ⋯,q0E,List.getElem?_drop];have e:i+k<row.length:=by omega
  simp[JW e]
def Ao(n:Nat)(d:Int):Option Int->Int
 |none=>d
 |some i=>max 0 (min (if i<0 then i+(n:Int) else i) (n:Int))
theorem uP(n d:Nat)(v:Option Int):Ao n (d:Int) v=((HT.sIx n d v:Nat):Int):=by
 cases v with
 |none=>rfl
 |some v=>
  show max 0 (min (if v<0 then v+(n:Int) else v) (n:Int))=(((if v<0 then(v+(n:Int)).toNat else min v.toNat n:Nat)):Int)
  by_cases a:v<0
  ·rw[q07 a,q07 a,Int.max_def,Int.min_def]
   split<;>split at * <;> omega
  ·rw[q06 a,q06 a,Int.max_def,Int.min_def]
   split<;>split at * <;> omega
theorem wM(lo hi:Option Int)(n:Nat):strSliceIndices lo hi 1 n=sliceRange (Ao n ((0:Nat):Int) lo) (Ao n (n:Int) hi) 1:=by cases lo<;>cases hi<;>rfl
theorem ft(row:K0)(lo hi:Option Int):Txt.slice (tx row) lo hi=tx ((row.drop (HT.sIx row.length 0 lo)).take (HT.sIx row.length row.length hi-HT.sIx row.length 0 lo)):=by
 have hl:=HT.sIx_le row.length 0 (Kk _) lo;have hh:=HT.sIx_le row.length row.length (Kj _) hi;have key:strSliceIndices lo hi 1 (tx row).length=(List.range (HT.sIx row.length row.length hi-HT.sIx row.length 0 lo)).map λm=>HT.sIx row.length 0 lo+m:=by
  rw[ax,wM,uP,uP];generalize HT.sIx row.length 0 lo=a;generalize HT.sIx row.length row.length hi=b;unfold sliceRange;have en:(if(1:Int)>0 then(if(a:Int)<(b:Int) then((b:Int)-(a:Int)+1-1)/1 else 0) else(if(a:Int)>(b:Int) then((a:Int)-(b:Int)-1-1)/(-1) else 0)).toNat=b-a:=by
   rw[q07 (by decide)]
   split<;>omega
  show(List.range (if(1:Int)>0 then(if(a:Int)<(b:Int) then((b:Int)-(a:Int)+1-1)/1 else 0) else(if(a:Int)>(b:Int) then((a:Int)-(b:Int)-1-1)/(-1) else 0)).toNat).map (fun(k:Nat)=>((a:Int)+1*(k:Int)).toNat)=_;rw[en];refine q0K λm _=>?_;omega
 unfold Txt.slice;rw[key];generalize HT.sIx row.length 0 lo=a at hl ⊢;generalize HT.sIx row.length row.length hi=b at hh ⊢
 by_cases hab:a+(b-a)<=row.length
 ·have e:(((List.range (b-a)).map λm=>a+m).filterMap λj=>(tx row).cps[j]?)=(row.drop a).take (b-a):=by
   rw[<- vE row a (b-a) hab]
   congr 1
   funext j
   show row.toArray[j]?=row[j]?;simp
  rw[e]
  split
  ·rename_i hw
   simp at hw;rw[ax]at hw;have ha0:a=0:=by omega
   have hb0:b-a=row.length:=by omega
   rw[ha0,KU];rw[ha0]at hb0;rw[hb0,Kz]
  ·rfl
 ·exact q0Q hab ⋯
end QL
namespace L2
open PySem PySem.Spec PyProof.Rows
section
variable {X:Cx}{K:KY}{tg:Expr}
theorem gx(hK:X.K=K):eQ X (.builtin "isinstance") (Dj K):=hK▸b5
end
end L2
namespace PySem
open Sem (wp)
def TrD(cp:Value->Prop)(h base:Heap)(e:Addr)(cls:Value)(od:La)(fl:Value):Prop:=
 ∃oe vs T oT ts,h.get? e=some oe/\oe.cls=cls/\oe.dict=od/\oe.data=.fields vs/\vs[1]?=some (.ref T)/\base.get? T=none/\T≠e/\h.get? T=some oT/\oT.data=.fields ts/\ts[3]?=some fl/\∃cx,vs[2]?=some cx/\cp cx
end PySem
namespace L2
open PySem PySem.Spec PyProof.Rows
end L2
namespace L2
open PySem PySem.Spec PyProof.Rows
section
variable {X:Cx}{pins:KZ}{σ:St}{H:Hp}{s:K1}
theorem Inv.moved{ch:K3}{h':Heap}{tk:Nat}(I:Inv X pins σ H s)(hf:∀b∈ch,my X pins H b)(k:∀b o,b∉ch->s.heap.get? b=some o->h'.get? b=some o):Inv X pins σ H {s with heap:=h',toks:=tk}:=by
 have a:∀b o,H b=some o->b∉ch:=λb o e z=>by rw[(hf b z).1]at e;cases e
 refine I.call' (s':={s with heap:=h',toks:=tk}) (ch:=ch) rfl ⟨λb o e _ _ hc=>k b o hc e,λb o e _ _ hc=>⟨o.slots,k b o hc e⟩,λb o e n hc=>n,λb o e hc=>⟨o,k b o hc e⟩,λb xs q=>q,λb o y q=>q,λb qs q=>⟨#[],by rw[q];simp⟩⟩
  (λb o e=>(I.hok b o e).stay (λc u hc q=>k c u (by
   rcases hc with rfl | hc
   ·exact a _ _ e
   ·exact a _ _ hc) q) (λ_ q=>q) λ_ _ q=>q) I.bare λb d=>?_
 obtain⟨f0,l,f2,j,i,g⟩:=hf b d;exact⟨j,l,i,g⟩
theorem Inv.movedT{ch:K3}{h':Heap}{tk:Nat}{T:Addr}{ob:HO}(I:Inv X pins σ H s)(hf:∀b∈ch,my X pins H b)(k:∀b o,b∉ch->s.heap.get? b=some o->h'.get? b=some o)(hT:s.heap.objs.size<=T)(new:ce X.prog X.w (aD H T ob) h' T ob) :
  Inv X pins σ (aD H T ob) {s with heap:=h',toks:=tk}:=by
 have g:∀b o,H b=some o->b∉ch:=λb o e z=>by rw[(hf b z).1]at e;cases e
 have a:H T=none:=I.hok.fresh hT;have j:∀b o,s.heap.get? b=some o->b≠T:=λb o e z=>by rw[z]at e;exact q0Q (Km e) (Nat.not_lt.mpr hT)
 refine I.call' (s':={s with heap:=h',toks:=tk}) (ch:=ch) rfl ⟨λb o e _ _ hc=>k b o hc e,λb o e _ _ hc=>⟨o.slots,k b o hc e⟩,λb o e n hc=>by rw[ar (j b o e)];exact n,λb o e hc=>⟨o,k b o hc e⟩,λb i q=>by rw[ar (aI q a)];exact q,λb o y q=>by rw[ar (aI q a)];exact q,λb qs q=>⟨#[],by rw[ar (aI q a),q];simp⟩⟩
  (λb o e=>?_) I.bare λb d=>?_
 ·by_cases d:b=T
  ·subst d
   rw[af]at e;cases e;exact new
  ·rw[ar d]at e
   exact(I.hok b o e).stay (λc u hc q=>k c u (by
    rcases hc with rfl | hc
    ·exact g _ _ e
    ·exact g _ _ hc) q) (λc q=>by rw[ar (aI q a)];exact q) λc i q=>by rw[ar (aI q a)];exact q
 ·obtain⟨f0,r,f2,p,m,l⟩:=hf b d
  exact⟨p,r,m,l⟩
end
def F7(K:KY)(a b:Addr):It:=
 ⟨λi H=>∃xs ys x y,aN K H a xs/\aN K H b ys/\xs[i]?=some x/\ys[i]?=some y,λi H v H'=>∃T x y,v=.ref T/\H T=none/\H'=aD H T (.tup [x,y])/\(∀xs,aN K H a xs->xs[i]?=some x)/\∀ys,aN K H b ys->ys[i]?=some y,
  λi H=>∃xs ys,aN K H a xs/\aN K H b ys/\(xs.length<=i\/ys.length<=i)⟩
theorem zE{P:K6}{w:K9}{K:KY}{elts:Lb}{x1:Nat}{tp:Pos}{z TI TO i1 i2 l1 l2:Addr}(D:ZipApart z TI TO i1 i2 l1 l2) :
  rQ P w K (.Tuple elts x1 tp) (F7 K l1 l2) [z,TI,TO,i1,i2] z (λi h=>IsZip h z TI TO .none/\IsPair h TI (.ref i1) (.ref i2)/\(∃a b,IsPair h TO a b)/\h.IsListIter i1 l1 i/\h.IsListIter i2 l2 i) where
 mem:=by simp
 obj:=λi h m b J=>by
  obtain⟨n,d,⟨a,c,g⟩,⟨o1,e1,c1,d1⟩,⟨o2,e2,c2,d2⟩⟩:=m;simp only[Kb,List.not_mem_nil,or_false]at J;rcases J with rfl | rfl | rfl | rfl | rfl
  ·exact⟨_,n,λv q=>by cases q⟩
  ·exact⟨_,d,λv q=>by cases q⟩
  ·exact⟨_,g,λv q=>by cases q⟩
  ·exact⟨_,e1,λv q=>by rw[d1]at q;cases q⟩
  ·exact⟨_,e2,λv q=>by rw[d2]at q;cases q⟩
 keep:=λi h h' m l=>by
  obtain⟨n,d,⟨a,b,g⟩,h1,h2⟩:=m;exact⟨l z (by simp) _ n,l TI (by simp) _ d,⟨a,b,l TO (by simp) _ g⟩,h1.at λo e=>l i1 (by simp) o e,h2.at λo e=>l i2 (by simp) o e⟩
 item:=by
  intro X hP hw hK k i L s σ H E I hf m hg;subst hP hw hK;obtain⟨xs,ys,x,y,r,p,hx,hy⟩:=hg;obtain⟨O,B,p1,a7⟩:=I.list r;obtain⟨M,u,Z,a0⟩:=I.list p;obtain⟨T,b0,Y⟩:=B.get hx;obtain⟨S,a9,U⟩:=u.get hy;obtain⟨n,d,⟨a,b,g⟩,h1,h2⟩:=m;refine wpAny_pyNext_zip_item D n d g h1 h2 p1.isList Z.isList (x:=T) (y:=S) (by simpa using b0) (by simpa using a9) λh' a1 a2 a3 a4 a5 a6 l=>?_;refine⟨_,rfl,wpAny_letOwnedTupleGo_zip a1 λR a8 j=>?_⟩;have G:H s.heap.objs.size=none:=I.hok.fresh (Kj _);have lt:∀{c o},s.heap.get? c=some o->s.heap.objs.size≠c:=λe=>Nat.ne_of_gt (Km e);have kk:∀c o,c∉[z,TI,TO,i1,i2]->s.heap.get? c=some o->R.get? c=some o:=λc o k e=>
   j.extBut _ _ (λq=>k (by simp[q])) (l c o (λq=>k (by simp[q])) (λq=>k (by simp[q])) (λq=>k (by simp[q])) (λq=>k (by simp[q])) e)
  have hT:R.get? s.heap.objs.size=some {cls:=.type "tuple",data:=.seq #[T,S]}:=j.extBut _ _ (lt n) a5;refine⟨.ref s.heap.objs.size,aD H s.heap.objs.size (.tup [x,y]),I.movedT (tk:=s.toks) hf kk (Kj _) ⟨show 2<=sizeLine from by decide +kernel,[T,S],.cons Y (.cons U .nil),_,hT,rfl,_,rfl⟩,rfl,
   ⟨_,x,y,rfl,G,rfl,λzs C=>by rw[I.list_inj C r];exact hx,λzs C=>by rw[I.list_inj C p];exact hy⟩,
   ⟨a8,j.extBut _ _ D.TIz (l _ _ D.TIz D.TITO D.TIi1 D.TIi2 d),⟨_,_,j.extBut _ _ D.TOz a2⟩,a3.extBut j.extBut D.i1z,a4.extBut j.extBut D.i2z⟩,λb J=>?_⟩
  have b1:b≠s.heap.objs.size:=by
   obtain⟨o1,e1,_⟩:=h1;obtain⟨o2,e2,_⟩:=h2;simp only[Kb,List.not_mem_nil,or_false]at J;rcases J with rfl | rfl | rfl | rfl | rfl
   ·exact(lt n).symm
   ·exact(lt d).symm
   ·exact(lt g).symm
   ·exact(lt e1).symm
   ·exact(lt e2).symm
  rw[ar b1];exact(hf b J).1
 done:=by
  intro X hP hw hK k i L s σ H E I hf m hg;subst hP hw hK;obtain⟨xs,ys,r,p,hx⟩:=hg;obtain⟨O,B,p1,a7⟩:=I.list r;obtain⟨M,u,Z,a0⟩:=I.list p;obtain⟨n,d,⟨a,b,g⟩,h1,h2⟩:=m;have l1':=B.length;have l2':=u.length;refine wpAny_pyNext_zip_end (I.ok.hd k) D n d g h1 h2 p1.isList Z.isList ?_ λh' l=>⟨rfl,I.moved (tk:=s.toks) hf λc o k e=>l c o (λq=>k (by simp[q])) (λq=>k (by simp[q])) (λq=>k (by simp[q])) (λq=>k (by simp[q])) e⟩;rcases hx with hx | hx
  ·exact .inl (by simp;omega)
  ·exact .inr (by simp;omega)
 self:=λ_ _ _ _ _ m h=>wpAny_pyIter_zip m.1 h
theorem zc(n l1 l2:Nat)(h1:l1<n)(h2:l2<n):ZipApart (n+4) (n+2) (n+3) n (n+1) l1 l2:=by
 constructor<;>exact λe=>q0Q (show(_:Nat)=_ from e) ⋯
section
variable {X:Cx}{elts:Lb}{x1:Nat}{tp:Pos}
def D1(K:KY)(ta:TA):TI:=λσ H R=>ta σ H λvs H1=>∃a b xs ys,vs=[.ref a,.ref b]/\aN K H1 a xs/\aN K H1 b ys/\R (F7 K a b) H1
theorem En{a b:Expr}{ta:TA}{p pos:Pos}(hg:Gl X "zip")(hm:X.mg "zip"=none)(ha:PA X [a,b] ta)(hs:autoParam (starEach [a,b] X.env=[(false,eval a X.env),(false,eval b X.env)]) zz0._auto_1)(hs2:autoParam (starEach [b] X.env=[(false,eval b X.env)]) zz0._auto_1):PI X (.Tuple elts x1 tp) (.Call (.Name "zip" p) [a,b] [] pos) (D1 X.K ta):=by
 intro d s σ H R I h;refine Call_ (eG I hg hm boot_zip (PyProof.Rows.callWith_type1 (cq (ha pos d s σ H _ I h) λus c ⟨vs,H1,i,G,J⟩=>?_) (by rw[hs,hs2]) (by rw[hs2];rfl)));obtain⟨l1,l2,xs,ys,rfl,m,l,q⟩:=J;obtain⟨u,v,rfl,D,C⟩:=G.two;cases D;cases C;obtain⟨its1,rv1,r,_⟩:=i.list m;obtain⟨its2,rv2,o,_⟩:=i.list l;refine call_zip_2 r.isList o.isList λM n B z y x z6 L=>?_;have k:l1<c.heap.objs.size:=by obtain⟨_,e,_⟩:=r.isList;exact Km e
 have j:l2<c.heap.objs.size:=by obtain⟨_,e,_⟩:=o.isList;exact Km e
 have O:Inv X d σ H1 {c with heap:=M }:=i.kept (t':=c.toks) L;refine wpAny_pyIter_zip n ?_;refine⟨c.heap.objs.size+4,[c.heap.objs.size+4,c.heap.objs.size+2,c.heap.objs.size+3,c.heap.objs.size,c.heap.objs.size+1],_,_,H1,rfl,O,zE (l1:=l1) (l2:=l2) ?_,⟨n,B,⟨_,_,z⟩,y,x⟩,λb w=>?_,q⟩
 ·exact zc _ _ _ k j
 ·have g:c.heap.objs.size<=b:=by
   simp only[Kb,List.not_mem_nil,or_false]at w;rcases w with e | e | e | e | e<;>(rw[e];first | exact Kj _ | exact Nat.le_add_right _ _)
  exact i.fpOk g (i.hok.fresh g)
end
end L2
namespace PySem.W
open PySem PySem.Spec PySem.Calls PyProof.Rows
section
variable {prog:K6}{w:K9}{A:K8}{E:KW}{s:K1}{K:Frag}{x D:Addr}{ox:Obj}{odo:Option Obj}{name:Str}
end
end PySem.W
namespace L2
open PySem PySem.Spec PyProof.Rows
theorem mR{X:Cx}{K:KY}{es:Lb}{k:Nat}{t:DA}{n:Nat}{pos:Pos}(hK:X.K=K)(hc:X.calm=true)(h:FH X es t)
  (hn:autoParam ((assignEach es X.env).length=n) zz0._auto_1) (hst:autoParam ((assignEach es X.env).findIdx? (·.1)=none) zz0._auto_1):PG X (.Tuple es k pos) (zY K n t):=hK▸iT hc h hn hst
section
variable {K:KY}{g:TG}{ti:TT}{te:TE}{σ:St}{H:Hp}{Q:List V->Hp->Prop}
theorem AJ{a b:Addr}{xs ys:List V}{n:Nat}(hn:n=min xs.length ys.length)(Pv:Nat->List V->St->Hp->Prop)(h0:Pv 0 [] σ H)(hz:∀i acc σ H,Pv i acc σ H->acc.length<sizeLine)(hi:∀i acc σ H,Pv i acc σ H->i<=n)
  (hl:∀i acc σ H,Pv i acc σ H->aN K H a xs/\aN K H b ys)
  (hs:∀i x y acc σ H T,xs[i]?=some x->ys[i]?=some y->Pv i acc σ H->H T=none->g (.ref T) σ (aD H T (.tup [x,y])) λσ2 H3=>ti σ2 H3 λb H4=>if b=true then te σ2 H4 λv H5=>Pv (i+1) (acc++[v]) σ2 H5 else Pv (i+1) acc σ2 H4)
  (he:∀acc σ H,Pv n acc σ H->Q acc H):eR (F7 K a b) g ti te σ H Q:=by
 refine gR (J:=F7 K a b) (g:=g) (ti:=ti) (te:=te) (Q:=Q) (n:=n) Pv h0 hz hi (λacc σ H w=>⟨xs,ys,(hl _ _ _ _ w).1,(hl _ _ _ _ w).2,⋯⟩)
  (λi acc σ H hlt w=>⟨xs,ys,xs[i]'⋯,ys[i]'⋯,(hl _ _ _ _ w).1,(hl _ _ _ _ w).2,JW ⋯,JW ⋯⟩) (λi x acc σ H H2 hlt w y=>?_) he
 obtain⟨T,x,y,rfl,e,rfl,d,c⟩:=y;exact hs i x y acc σ H T (d xs (hl _ _ _ _ w).1) (c ys (hl _ _ _ _ w).2) w e
end
end L2
namespace L2
open PySem PySem.Spec PyProof.Rows
def FN(K:KY)(a:Addr):It:=
 ⟨λi H=>∃xs x,aN K H a xs/\xs[i]?=some x,λi H v H'=>∃T x,v=.ref T/\H T=none/\H'=aD H T (.tup [.int (i:Int),x])/\∀xs,aN K H a xs->xs[i]?=some x,λi H=>∃xs,aN K H a xs/\xs.length<=i⟩
theorem zk{P:K6}{w:K9}{K:KY}{elts:Lb}{x1:Nat}{tp:Pos}{e it l:Addr}(hei:e≠it) :
  rQ P w K (.Tuple elts x1 tp) (FN K l) [e,it] e (λi h=>(∃old,IsEnum h e it i old)/\h.IsListIter it l i) where
 mem:=by simp
 obj:=λi h d b n=>by
  obtain⟨⟨old,a⟩,⟨Z,S,c1,d1⟩⟩:=d;simp only[Kb,List.not_mem_nil,or_false]at n;rcases n with rfl | rfl
  ·exact⟨_,a,λv q=>by cases q⟩
  ·exact⟨_,S,λv q=>by rw[d1]at q;cases q⟩
 keep:=λi h T d m=>by
  obtain⟨⟨old,a⟩,h1⟩:=d;exact⟨⟨old,m e (by simp) _ a⟩,h1.at λo e'=>m it (by simp) o e'⟩
 item:=by
  intro X O J R g i r s σ H E I hf d hg;subst O J R;obtain⟨U,x,y,G⟩:=hg;obtain⟨C,B,p,hz⟩:=I.list y;obtain⟨u,hu,Y⟩:=B.get G;obtain⟨⟨old,a⟩,h1⟩:=d;obtain⟨Z,S,_⟩:=id h1;refine wpAny_pyNext_enum_item a h1 p.isList (x:=u) (by simpa using hu) hei λT a1 a2 a3 a4 m=>?_;refine⟨_,rfl,wpAny_letOwnedTupleGo_enum a1 λh2 M j=>?_⟩;have k:H s.heap.objs.size=none:=I.hok.fresh (Kj _);have lt:∀{c o},s.heap.get? c=some o->s.heap.objs.size≠c:=λe=>Nat.ne_of_gt (Km e);have kk:∀c o,c∉[e,it]->s.heap.get? c=some o->h2.get? c=some o:=λc o g q=>
   j.extBut _ _ (λz=>g (by simp[z])) (m c o (λz=>g (by simp[z])) (λz=>g (by simp[z])) q)
  have hT:h2.get? s.heap.objs.size=some {cls:=.type "tuple",data:=.seq #[.int i s.toks,u]}:=j.extBut _ _ (lt a) a3;refine⟨.ref s.heap.objs.size,aD H s.heap.objs.size (.tup [.int i,x]),I.movedT (tk:=s.toks+1) hf kk (Kj _) ⟨show 2<=sizeLine from by decide +kernel,[.int i s.toks,u],.cons ⟨_,rfl⟩ (.cons Y .nil),_,hT,rfl,_,rfl⟩,rfl,
   ⟨_,x,rfl,k,rfl,λzs D=>by rw[I.list_inj D y];exact G⟩,⟨⟨u,by simpa using M⟩,a2.extBut j.extBut (Ne.symm hei)⟩,λb n=>?_⟩
  have L:b≠s.heap.objs.size:=by
   simp only[Kb,List.not_mem_nil,or_false]at n;rcases n with rfl | rfl
   ·exact(lt a).symm
   ·exact(lt S).symm
  rw[ar L];exact(hf b n).1
 done:=by
  intro X O J R g i r s σ H E I hf d hg;subst O J R;obtain⟨U,y,G⟩:=hg;obtain⟨C,B,p,hz⟩:=I.list y;obtain⟨⟨old,a⟩,h1⟩:=d;have l1':=B.length;refine wpAny_pyNext_enum_end (I.ok.hd g) a h1 p.isList (by simp;omega) λT m=>⟨rfl,I.moved (tk:=s.toks) hf λc o g e=>m c o (λq=>g (by simp[q])) e⟩
 self:=λ_ _ _ _ _ d h=>let ⟨⟨_,a⟩,_⟩:=d;wpAny_pyIter_enum a h
section
variable {X:Cx}{elts:Lb}{x1:Nat}{tp:Pos}
def Ai(K:KY)(ta:TA):TI:=λσ H R=>ta σ H λvs H1=>∃a xs,vs=[.ref a]/\aN K H1 a xs/\R (FN K a) H1
theorem rj{a:Expr}{ta:TA}{p pos:Pos}(hg:Gl X "enumerate")(hm:X.mg "enumerate"=none)(ha:PA X [a] ta)(hs:autoParam (starEach [a] X.env=[(false,eval a X.env)]) zz0._auto_1):PI X (.Tuple elts x1 tp) (.Call (.Name "enumerate" p) [a] [] pos) (Ai X.K ta):=by
 intro c s σ H R I h;refine Call_ (eG I hg hm boot_enumerate (PyProof.Rows.callWith_type1 (cq (ha pos c s σ H _ I h) λus d ⟨vs,H1,i,o,r⟩=>?_) (by rw[hs];rfl) (by rfl)));obtain⟨l,xs,rfl,w,q⟩:=r;obtain⟨u,rfl,n⟩:=o.one;cases n;obtain⟨its,rv,v,_⟩:=i.list w;refine call_enumerate_list v.isList λy j m z3 x=>?_;have z:Inv X c σ H1 {d with heap:=y }:=i.kept (t':=d.toks) x;refine wpAny_pyIter_enum j ?_;refine⟨d.heap.objs.size+1,[d.heap.objs.size+1,d.heap.objs.size],_,_,H1,rfl,z,zk (l:=l) (Nat.ne_of_gt (Ku _)),⟨⟨_,j⟩,m⟩,λb k=>?_,q⟩;have g:d.heap.objs.size<=b:=by
  simp only[Kb,List.not_mem_nil,or_false]at k;rcases k with e | e<;>(rw[e];first | exact Kj _ | exact Nat.le_add_right _ _)
 exact i.fpOk g (i.hok.fresh g)
end
section
variable {K:KY}{g:TG}{tb:TS}{D:g_}{σ:St}{H:Hp}
theorem qm{a:Addr}{xs:List V}(Pv:Nat->St->Hp->Prop)(h0:Pv 0 σ H)(hl:∀i σ H,i<=xs.length->Pv i σ H->aN K H a xs)
  (hs:∀(i:Nat) x σ H T,xs[i]?=some x->Pv i σ H->H T=none->g (.ref T) σ (aD H T (.tup [.int (i:Int),x])) λσ2 H2=>tb {D with nx:=Pv (i+1),ct:=Pv (i+1),bk:=D.nx} σ2 H2) (hd:∀σ H,Pv xs.length σ H->D.nx σ H):yh (FN K a) g tb D σ H:=by
 refine⟨λi m σ H=>m=xs.length-i/\i<=xs.length/\Pv i σ H,⟨xs.length,by simp,Kk _,h0⟩,?_⟩;rintro i m σ H ⟨rfl,c,p⟩;have q:=hl i σ H c p
 by_cases b:i<xs.length
 ·refine .inr ⟨⟨xs,xs[i],q,by simp[b]⟩,Pv (i+1),λσ' j p'=>⟨xs.length-(i+1),⋯,rfl,b,p'⟩,λx j y=>?_⟩
  obtain⟨T,x,rfl,d,rfl,y⟩:=y;exact hs i x σ _ T (y xs q) p d
 ·have e:i=xs.length:=by omega
  subst e;exact .inl ⟨⟨xs,q,Kj _⟩,hd σ H p⟩
end
end L2
namespace PySem.W
open PySem PySem.Spec PySem.Calls PyProof.Rows
open Builtin Builtin.ObjectAttr
def DO:List Value->List Value
 | .ref _::r=>DO r
 |l=>l
end PySem.W
namespace L2
open PySem PySem.Spec PyProof.Rows
end L2
namespace PySem.W
open PySem PySem.Spec PySem.Calls PyProof.Rows
end PySem.W
namespace SpM
open PySem
def glue(c:Nat):List (List Nat)->List Nat
 | []=>[]
 | [p]=>p
 |p::q::r=>p++c::glue c (q::r)
def step(c:Nat)(rows:List (List Nat))(d:Nat):List (List Nat):=if d=c then rows++[[]] else rows.dropLast++[rows.getLastD []++[d]]
def parts(c:Nat)(x:K0):List (List Nat):=x.foldl (step c) [[]]
theorem xo{c:Nat}:∀{p q a b:K0},c∉p->c∉q->p++c::a=q++c::b->p=q/\a=b
 | [],[],a,b,_,_,e=>⟨rfl,by simpa using e⟩
 | [],y::q,a,b,_,hq,e=>by simp at e;exact q0Q e.1 (λz=>hq (by simp[z]))
 |x::p,[],a,b,hp,_,e=>by simp at e;exact q0Q e.1.symm (λz=>hp (by simp[z]))
 |x::p,y::q,a,b,hp,hq,e=>by
  simp at e;obtain⟨e1,e2⟩:=xo (p:=p) (q:=q) (λz=>hp (by simp[z])) (λz=>hq (by simp[z])) e.2;exact⟨by rw[e.1,e1],e2⟩
theorem glue_inj(c:Nat):∀{rows rows':List (List Nat)},rows≠[]->rows'≠[]->(∀p∈rows,c∉p)->(∀p∈rows',c∉p)->glue c rows=glue c rows'->rows=rows'
 | [p],[q],_,_,_,_,e=>by simpa[glue]using e
 | [p],q::q'::r,_,_,hf,_,e=>by
  have:c∈p:=by rw[show p=q++c::glue c (q'::r) from e];simp
  exact q0Q this (hf p (by simp))
 |p::p'::r,[q],_,_,_,hf,e=>by
  have:c∈q:=by rw[show q=p++c::glue c (p'::r) from e.symm];simp
  exact q0Q this (hf q (by simp))
 |p::p'::r,q::q'::r',_,_,h1,h2,e=>by
  obtain⟨d,b⟩:=xo (h1 p (by simp)) (h2 q (by simp)) (show p++c::glue c (p'::r)=q++c::glue c (q'::r') from e);have:=glue_inj c (rows:=p'::r) (rows':=q'::r') (by simp) (by simp) (λz a=>h1 z (by simp[a])) (λz a=>h2 z (by simp[a])) b;rw[d,this]
theorem join_glue(c:Nat):∀(ys:K7),(Builtin.Str.glued ⟨#[c]⟩ ys).cps.toList=glue c (ys.map λy=>y.cps.toList)
 | []=>rfl
 |y::ys=>by
  have key:∀(zs:K7) (a:Array Nat),(zs.foldl (λacc (p:Str)=>acc++(⟨#[c]⟩:Str).cps++p.cps) a).toList=glue c (a.toList::zs.map λy=>y.cps.toList):=by
   intro zs
   induction zs with
   |nil=>intro a;rfl
   |cons z zs ih=>
    intro a;rw[List.foldl_cons,ih];show glue c ((a ++ #[c]++z.cps).toList::_)=a.toList++c::glue c (z.cps.toList::_);have e:(a ++ #[c]++z.cps).toList=a.toList++c::z.cps.toList:=by simp
    rw[e];cases zs with
    |nil=>simp[glue]
    |cons w ws=>simp[glue]
  exact key ys y.cps
end SpM
namespace PyProof.Rows
open PySem PySem.Spec PySem.Builtin PySem.Builtin.Str
end PyProof.Rows
namespace L2
open PySem PySem.Spec PyProof.Rows QL
structure Bm(K:KY)(C:Addr)(m:Str)(f:Addr):Prop where
 sp:PySem.W.specialIn K (.ref C) "__getattribute__"=some (some (.builtin "type.__getattribute__"))
 rd:PySem.W.readsIn K C (.type "type")=true
 fi:PySem.W.findCls K (.ref C) (.type "type") m=some (.val (.ref f))
 kp:PySem.W.keepIn K (.ref f)=true
section
variable {X:Cx}{CX:j4}{k:Nat}{f C:Addr}{fd:K5}{ps:K7}{sp:Sp}{E:XK}{x m:Str}{p pos apos:Pos}{e:Expr}{es:Lb}{t:TA}
theorem AM{pl:Sem Bool}(c:Bm X.K C m f)(F:br X.prog X.w X.K X.mg X.base CX k f fd ps sp)(hr:c3 k X.A)(hg:Gl X x)(hm:X.mg x=some (.ref C))(hb:dL X.K fd ps [])(hx:dy CX X E)(ha:PA X (e::es) t)
  (hdb:autoParam ((x==("__debug__":Str))=false) zz4._auto_1) (hst:autoParam (starEach (e::es) X.env=(false,eval e X.env)::starEach es X.env) zz0._auto_1) (hpl:autoParam ((backTo pos (starEach es X.env)).any (·.1)=false) zz0._auto_1)
  (ht:autoParam (eval (.Call (.Attribute (.Name x p) m apos) (e::es) [] pos) X.env=(do
   let ov <- eval (.Name x p) X.env
   standAt apos.atName
   let (f,first) <- holding [ov] (getMethod ov m pl)
   callWith pos f first (backTo pos (starEach (e::es) X.env)) (backToKw pos (keywordEach [] X.env)))) zz0._auto_1) :
  PE X (.Call (.Attribute (.Name x p) m apos) (e::es) [] pos) (lV sp [] E t):=by
 intro a s σ H Q I h;refine PySem.W.methodCall_KW (pl:=pl) (mQ I hg hm ?_ hdb) ht;refine PySem.W.method_cls I.kIn c.sp (PySem.W.cls_value I.kIn c.rd c.fi rfl ?_);have g:=I.tok (s.toks+1);refine PySem.W.callWith_K (first:=[]) (h₀:=X.base) I.ok.mod.kin c.kp (cq (ha pos a _ σ H _ g h) λus s2 ⟨vs,H2,b,r,d⟩=>⟨b.kIn,?_⟩) hst hpl;exact kP F hr hb .nil hx b r d
end
section
variable (P:K6)(w:K9)(K:KY)(mg:K4)(base:Heap)(CX:j4)
structure yB(k:Nat)(x m:Str)(ps:K7)(sp:Sp):Prop where
 ex:∃(C f:Addr) (fd:K5),br P w K mg base CX k f fd ps sp/\mg x=some (.ref C)/\Bm K C m f/\dL K fd ps []
structure lg(k:Nat)(x:Str)(C:Addr)(ps:K7)(sp:Sp):Prop where
 ex:∃(f:Addr) (fd:K5),br P w K mg base CX k f fd ps sp/\mg x=some (.ref C)/\Mk K C f/\dL K fd ps []
structure jk(k:Nat)(C:Addr)(m:Str)(ps:K7)(sp:Sp):Prop where
 ex:∃(f:Addr) (fd:K5),br P w K mg base CX k f fd ps sp/\jv K C/\iP K C m f/\dL K fd ps []
end
section
variable {X:Cx}{CX:j4}{k:Nat}{C:Addr}{ps:K7}{sp:Sp}{E:XK}{x m:Str}{p pos apos:Pos}{e o:Expr}{es:Lb}{t:TA}{ta:TE}
theorem mP{pl:Sem Bool}(c:yB X.prog X.w X.K X.mg X.base CX k x m ps sp)(hr:c3 k X.A)(hg:Gl X x)(hx:dy CX X E)(ha:PA X (e::es) t)
  (hdb:autoParam ((x==("__debug__":Str))=false) zz4._auto_1) (hst:autoParam (starEach (e::es) X.env=(false,eval e X.env)::starEach es X.env) zz0._auto_1) (hpl:autoParam ((backTo pos (starEach es X.env)).any (·.1)=false) zz0._auto_1)
  (ht:autoParam (eval (.Call (.Attribute (.Name x p) m apos) (e::es) [] pos) X.env=(do
   let ov <- eval (.Name x p) X.env
   standAt apos.atName
   let (f,first) <- holding [ov] (getMethod ov m pl)
   callWith pos f first (backTo pos (starEach (e::es) X.env)) (backToKw pos (keywordEach [] X.env)))) zz0._auto_1) :
  PE X (.Call (.Attribute (.Name x p) m apos) (e::es) [] pos) (lV sp [] E t):=by
 obtain⟨C,f,fd,F,a,d,b⟩:=c.ex;exact AM d F hr hg a b hx ha hdb hst hpl ht
theorem i7(c:lg X.prog X.w X.K X.mg X.base CX k x C ps sp)(hr:c3 (k+1) X.A)(hg:Gl X x)(hx:dy CX X E)(ha:PA X (e::es) t)
  (hdb:autoParam ((x==("__debug__":Str))=false) zz4._auto_1) (hst:autoParam (starEach (e::es) X.env=(false,eval e X.env)::starEach es X.env) zz0._auto_1) (hpl:autoParam ((backTo pos (starEach es X.env)).any (·.1)=false) zz0._auto_1) :
  PE X (.Call (.Name x p) (e::es) [] pos) (xF C sp [] E t):=by
 obtain⟨f,fd,F,a,M,b⟩:=c.ex;exact Di M F hr hg a b .nil hx ha hdb hst hpl
theorem qN{pl:Sem Bool}(c:jk X.prog X.w X.K X.mg X.base CX k C m ps sp)(hr:c3 k X.A)(hx:dy CX X E)(he:PE X o ta)(ha:PA X (e::es) t)
  (hst:autoParam (starEach (e::es) X.env=(false,eval e X.env)::starEach es X.env) zz0._auto_1) (hpl:autoParam ((backTo pos (starEach es X.env)).any (·.1)=false) zz0._auto_1)
  (ht:autoParam (eval (.Call (.Attribute o m apos) (e::es) [] pos) X.env=(do
   let ov <- eval o X.env
   standAt apos.atName
   let (f,first) <- holding [ov] (getMethod ov m pl)
   callWith pos f first (backTo pos (starEach (e::es) X.env)) (backToKw pos (keywordEach [] X.env)))) zz0._auto_1) :
  PE X (.Call (.Attribute o m apos) (e::es) [] pos) (pU C m sp [] E ta t):=by
 obtain⟨f,fd,F,d,a,b⟩:=c.ex;exact Cb he d a F hr b .nil hx ha hst hpl ht
theorem oJ{pl:Sem Bool}(c:jk X.prog X.w X.K X.mg X.base CX k C m ps sp)(hr:c3 k X.A)(hx:dy CX X E)(he:PE X o ta)
  (ht:autoParam (eval (.Call (.Attribute o m apos) [] [] pos) X.env=(do
   let ov <- eval o X.env
   standAt apos.atName
   let (f,first) <- holding [ov] (getMethod ov m pl)
   callWith pos f first (backTo pos (starEach [] X.env)) (backToKw pos (keywordEach [] X.env)))) zz0._auto_1) :
  PE X (.Call (.Attribute o m apos) [] [] pos) (pU C m sp [] E ta nN):=by
 obtain⟨f,fd,F,d,a,b⟩:=c.ex;exact Bw he d a F hr b .nil hx ht
end
section
variable {g:TG}{ti:TT}{te:TE}{σ:St}{H:Hp}{Q:List V->Hp->Prop}
theorem uR{x:Str}(Pv:Nat->List V->St->Hp->Prop)(h0:Pv 0 [] σ H)(hz:∀i acc σ H,Pv i acc σ H->acc.length<sizeLine)(hi:∀i acc σ H,Pv i acc σ H->i<=x.cps.size)
  (hs:∀i c acc σ H,x.cps[i]?=some c->Pv i acc σ H->g (.str ⟨#[c]⟩) σ H λσ2 H3=>ti σ2 H3 λb H4=>if b=true then te σ2 H4 λv H5=>Pv (i+1) (acc++[v]) σ2 H5 else Pv (i+1) acc σ2 H4)
  (he:∀acc σ H,Pv x.cps.size acc σ H->Q acc H):eR (E8 x) g ti te σ H Q:=by
 exact gR (J:=E8 x) (g:=g) (ti:=ti) (te:=te) (Q:=Q) (n:=x.cps.size) Pv h0 hz hi (λacc σ H w=>Kj _) (λi acc σ H hlt w=>hlt)
  (λi v acc σ H H2 hlt w y=>by obtain⟨rfl,c,a,rfl⟩:=y;exact hs i c acc σ H2 a w) he
end
section
variable (P:K6)(w:K9)(K:KY)(mg:K4)(base:Heap)(CX:j4)
structure vX(k:Nat)(m:Str)(os:List (Addr×Sp)):Prop where
 ex:∀o∈os,∃ps,jk P w K mg base CX k o.1 m ps o.2
end
def rS(m:Str)(os:List (Addr×Sp))(E:XK)(ta:TE)(t:TA):TE:=λσ H Q=>ta σ H λx H1=>∃o∈os,∃a dx fs,x=.ref a/\H1 a=some (.ins o.1 dx fs)/\fs.lookup m=none /\
 t σ H1 λvs H2=>o.2 (x::(vs++[])) H2 Q E
section
variable {X:Cx}{CX:j4}{k:Nat}{os:List (Addr×Sp)}{E:XK}{m:Str}{pos apos:Pos}{e o:Expr}{es:Lb}{t:TA}{ta:TE}
theorem BX{pl:Sem Bool}(c:vX X.prog X.w X.K X.mg X.base CX k m os)(hr:c3 k X.A)(hx:dy CX X E)(he:PE X o ta)(ha:PA X (e::es) t)
  (hst:autoParam (starEach (e::es) X.env=(false,eval e X.env)::starEach es X.env) zz0._auto_1) (hpl:autoParam ((backTo pos (starEach es X.env)).any (·.1)=false) zz0._auto_1)
  (ht:autoParam (eval (.Call (.Attribute o m apos) (e::es) [] pos) X.env=(do
   let ov <- eval o X.env
   standAt apos.atName
   let (f,first) <- holding [ov] (getMethod ov m pl)
   callWith pos f first (backTo pos (starEach (e::es) X.env)) (backToKw pos (keywordEach [] X.env)))) zz0._auto_1) :
  PE X (.Call (.Attribute o m apos) (e::es) [] pos) (rS m os E ta t):=by
 intro b s σ H Q I h;refine PySem.W.methodCall_KW (pl:=pl) (cq (he b s σ H _ I h) λu j ⟨x,H1,i,n,v,w,a,dx,fs,ex,z,l,q⟩=>?_) ht;subst ex;obtain rfl:u=Value.ref a:=n;obtain⟨ps,B⟩:=c.ex v w;obtain⟨f,fd,F,C,d,y⟩:=B.ex;refine fw i z C d l ?_;refine PySem.W.callWith_K (first:=[.ref a]) (h₀:=X.base) I.ok.mod.kin d.kp (cq (ha pos b j σ H1 _ i q) λus s2 ⟨vs,H2,g,r,p⟩=>⟨g.kIn,?_⟩) hst hpl;exact kP (us:=.ref a::us) (vs:=.ref a::vs) F hr y .nil hx g (.cons rfl r) p
theorem Bd{pl:Sem Bool}(c:vX X.prog X.w X.K X.mg X.base CX k m os)(hr:c3 k X.A)(hx:dy CX X E)(he:PE X o ta)
  (ht:autoParam (eval (.Call (.Attribute o m apos) [] [] pos) X.env=(do
   let ov <- eval o X.env
   standAt apos.atName
   let (f,first) <- holding [ov] (getMethod ov m pl)
   callWith pos f first (backTo pos (starEach [] X.env)) (backToKw pos (keywordEach [] X.env)))) zz0._auto_1) :
  PE X (.Call (.Attribute o m apos) [] [] pos) (rS m os E ta nN):=by
 intro b s σ H Q I h;refine PySem.W.methodCall_KW (pl:=pl) (cq (he b s σ H _ I h) λu s1 ⟨x,H1,d,g,i,j,a,dx,fs,ex,p,l,q⟩=>?_) ht;subst ex;obtain rfl:u=Value.ref a:=g;obtain⟨ps,r⟩:=c.ex i j;obtain⟨f,fd,F,v,e,n⟩:=r.ex;refine fw d p v e l ?_;exact PySem.W.callWith_K0 (first:=[.ref a]) d.kIn e.kp (kP (us:=[.ref a]) (vs:=[.ref a]) F hr n .nil hx d (.cons rfl .nil) q)
end
structure jn(K:KY)(C:Addr):Prop where
 cl:jv K C
 ha:PySem.W.findIn K (.ref C) "__class__"=some (some (.builtin "object.__class__"))
 hn:PySem.W.specialIn K (.builtin "object.__class__") "__get__"=some (some (.builtin "getset_descriptor.__get__"))
 htk:PySem.W.takesIn K (.builtin "object.__class__")=some true
 hm:PySem.W.mroIn K C (.type "object")=some true
theorem jn.ty{K:KY}{C a dx:Addr}{H:Hp}{fs:List (Str×V)}(i:jn K C)(e:H a=some (.ins C dx fs)):jq K H (.ref a) (.ref C):=.ins e i.cl i.ha i.hn i.htk i.hm
section
variable {X:Cx}{es:Lb}{t:TA}
theorem gz{x j p}(hr:PA X es t):PA X (.Constant (.str x) j p::es) (jz (tC (.str x)) t):=ac jJ hr rfl
theorem b7{x j p}(hr:PA X es t):PA X (.Constant (.int x) j p::es) (jz (tC (.int x)) t):=ac ai hr rfl
end
end L2
namespace PyProof.Rows
open PySem PySem.Spec PySem.Builtin PySem.Builtin.Str
end PyProof.Rows
namespace L2
open PySem PySem.Spec PyProof.Rows QL
theorem xP:∀(xs:List V) (us:K2),xs.length=us.length->(∀(j:Nat) (x:V) (u:Value),xs[j]?=some x->us[j]?=some u->bF x u)->bp xs us
 | [],[],_,_=>.nil
 |x::xs,u::us,hl,h=>.cons (h 0 x u rfl rfl) (xP xs us (by simpa using hl) λj y v e1 e2=>h (j+1) y v (by simpa using e1) (by simpa using e2))
section
variable {X:Cx}{pins:KZ}{σ:St}{H:Hp}{s:K1}{a:Addr}{kvs:List (cM×V)}{k:cM}{u r:Value}{d:V}{A:K8}{E:KW}
theorem Ba{Q:KW}(I:Inv X pins σ H s)(e:H a=some (.dK kvs))(ry:bF (kV k) u)(rd:bF d r)(hl:kvs.length<sizeLine)
  (h1:∀v w' s',dM kvs k=some v->Inv X pins σ H s'->bF v w'->Q w' s') (h2:dM kvs k=none->∀s',Inv X pins σ (aD H a (.dK (dw kvs k d))) s'->Q r s') :
  wpAny (model X.prog X.w) A (call (.builtin "dict.setdefault") [.ref a,u,r]) Q E s:=by
 obtain⟨z,j,vs,c,l⟩:=pY I.hok e;have m:vs.length<=sizeLine:=by rw[<- c.length];exact z
 have i:(dw kvs k d).length<=sizeLine:=by have:=ge kvs k d;omega
 refine call_meetsIn PySem.F.slot_dict_setdefault l.typeIs PySem.F.entry_dict_setdefault (PySem.F.args_dict_setdefault_3 _ _ _) (kt_meets_setdefault (cj X.prog X.w) a (m_ ry) j r) ⟨vs,l,m,λv n=>?_,λp y g o=>?_⟩
 ·have q:=c.val k
  rw[n]at q;cases b:dM kvs k with
  |none=>rw[b]at q;exact False.elim q
  |some v0=>rw[b]at q;exact h1 v0 v _ b (I.tok _) q
 ·have q:=c.val k
  rw[p]at q;have b:dM kvs k=none:=by
   cases b:dM kvs k with
   |none=>rfl
   |some v0=>rw[b]at q;exact False.elim q
  have x:∃q,y.get? a=some q:=let ⟨q,_,_,hq,_⟩:=g;⟨q,hq⟩
  exact h2 b _ (mX I (by rw[e];exact True.intro) o x (vF i j (c.put k rd) g))
end
def uI(td ty tx:TE):TE:=λσ H Q=>td σ H λx H1=>∃a,x=.ref a/\Hg H1 a/\ty σ H1 λy H2=>tx σ H2 λz H3=>∃kvs k,H3 a=some (.dK kvs)/\y=kV k/\kvs.length<sizeLine /\
 (∀v,dM kvs k=some v->Q v H3)/\(dM kvs k=none->Q z (aD H3 a (.dK (dw kvs k z))))
section
variable {X:Cx}{o e f:Expr}{apos cpos:Pos}{td ty tx:TE}
theorem nX(ho:PE X o td)(he:PE X e ty)(hf:PE X f tx)(m:M2 X o "setdefault" apos e f cpos):PE X (.Call (.Attribute o "setdefault" apos) [e,f] [] cpos) (uI td ty tx):=by
 intro b s σ H Q I h;refine wpAny_Call_method m.base m.few m.line PySem.F.plainAttrs_dict PySem.F.slot_dict_setdefault PySem.F.type_dict_setdefault (cq (ho b s σ H _ I h) λu r ⟨x,H1,j,B,a,T,d,G⟩=>?_);subst T;obtain rfl:u=Value.ref a:=B;obtain⟨n,l,_⟩:=BB j d;refine⟨n,l,?_⟩;rw[m.trees];refine Calls.callWith_builtin rfl (Calls.evalArgs_plain (Calls.spliced_cons (cq (he b r σ H1 _ j G) λiv q ⟨y,H2,Y,w,D⟩=>
  Calls.spliced_cons (cq (hf b q σ H2 _ Y D) λfv s3 ⟨z,Z,U,i,kvs,k,M,S,c,R,O⟩=>Calls.spliced_nil ?_))))
 subst S;exact Ba U M w i c (λv w' p J g C=>⟨v,Z,g,C,R v J⟩) λL p g=>⟨z,_,g,i,O L⟩
end
theorem FV{P:K6}{w:K9}{k:cM}{u:Value}(h:(cj P w).is k u=true):bF (kV k) u:=by
 rcases cz (show nA k u=true from h) with⟨i,t,rfl,rfl⟩ | ⟨x,t,rfl,rfl⟩<;>exact⟨_,rfl⟩
section
variable {X:Cx}
def vq:List V->Hp->VK->Prop:=λxs H Q=>∃a kvs,xs=[.ref a]/\H a=some (.dK kvs)/\∀l,H l=none->Q (.ref l) (aD H l (.lst (kvs.map λkv=>kV kv.1)))
theorem wX(hc:X.calm=true):eQ X (.type "list") vq:=by
 intro pins s σ H xs us Q I r h;obtain⟨a,g,rfl,e,q⟩:=h;obtain⟨u,rfl,o⟩:=nB r;obtain rfl:u=Value.ref a:=o;obtain⟨z,hd,vs,d,J⟩:=pY I.hok e;obtain⟨ep,L⟩:=J.dictAt;have p:vs.length<=sizeLine:=by rw[<- d.length];exact z
 refine PySem.W.kdl_call (PySem.W.kdl_dict hd) (I.ok.hd hc) L p λh' n c M B D b=>?_;have v:bp (g.map λi=>kV i.1) c.toList:=by
  refine xP _ _ (by rw[JZ];simp[b.1,d.length]) λj x u m G=>?_;obtain⟨k,w,l,C⟩:=b.2 j u (by simpa using G);have y:(g.map λi=>kV i.1)=(vs.map (·.1)).map kV:=by rw[<- d.keys,Ka];rfl
  rw[y,J1,J1,l]at m;cases m;exact FV C
 exact⟨.ref s.heap.objs.size,aD H s.heap.objs.size (.lst (g.map λi=>kV i.1)),I.laid (t':=n) B (Kj _) ⟨by rw[JZ];exact z,c.toList,M,v,by simpa using D⟩,rfl,q _ (I.hok.fresh (Kj _))⟩
end
section
variable {K:Type}[DecidableEq K]
def fW(σ:List K)(v:K):List K:=if v∈σ then σ else σ++[v]
def met(l:List K):List K:=l.foldl fW []
theorem tY(σ:List K)(v k:K):decide (k∈fW σ v)=(decide (k∈σ)||decide (k=v)):=by
 unfold fW
 by_cases h:v∈σ
 ·rw[q07 h]
  by_cases e:k=v
  ·subst e;simp[h]
  ·simp[e]
 ·rw[q06 h]
  simp[J']
theorem lW(σ:List K)(v:K):(fW σ v).length=if decide (v∈σ) then σ.length else σ.length+1:=by
 unfold fW
 by_cases h:v∈σ<;>simp[h]
theorem ut(l:List K)(v:K):met (l++[v])=fW (met l) v:=by unfold met;rw[List.foldl_append];rfl
theorem w6:∀(l σ:List K),(l.foldl fW σ).length<=σ.length+l.length
 | [],σ=>Kj _
 |v::l,σ=>by
  have h:=w6 l (fW σ v);have e:=lW σ v;rw[List.foldl_cons,J9]
  split at e<;>omega
theorem zM(n:Nat)(l:List K)(h:l.length=n):(met l).length<=n:=by
 have:=w6 l [];rw[<- h];unfold met;simpa using this
end
section
variable {prog:K6}{w:K9}{K:Type}[DecidableEq K]{knd:KeyKind prog w K}{A:K8}{R:Result->Shared->Prop}{I:Addr}{fp wr:K3}{G:Array GenState->Array GenState->Prop}{n:Nat}{P:Nat->Value->Prop}{St:Nat->Shared->Prop}
theorem C_(W:WalksS prog w A.in1 I fp wr G n P St)(S:Addr)(hSf:S∉fp)(l:List K)(hl:l.length=n)
  (hval:∀i v,P i v->∃k,l[i]?=some k/\knd.is k v=true/\v.scannable=true) (hb:n+1<scanBound) :
  ∀(k i:Nat) (s:K1),n-i=k->i<=n->St i s ->
   s.heap.SetOf knd S (λk'=>decide (k'∈met (l.take i))) (met (l.take i)).length ->
   (∀s',Moved (S::wr) G s s'->s'.heap.SetOf knd S (λk'=>decide (k'∈met l)) (met l).length->R (.ok (.ret .none)) s') ->
   codeAny (model prog w) A (.builtin "set.update.loop" ⟨[.ref S,.ref I],[]⟩) R s:=by
 have y:S∉wr:=λh=>hSf (W.sub _ h);have a:∀b∈wr,b∈S::wr:=λb hb=>Kc _ hb;intro k
 induction k with
 |zero=>
  intro i s hk hi c B U;have L:i=n:=by omega
  subst L;rw[<- hl,Kz]at B;refine codeAny_builtin F.entry_set_update_loop ?_;rw[Around.under_plainId F.plain_set_update_loop _];show wpAny _ A.in1 (pyNext (.ref I) >>= _) _ _ s;refine q04 (W.done s _ _ c λs' q=>?_);show wpAny _ A.in1 (ret Value.none) _ _ s';refine q05 (U s' (q.mono a) ?_);obtain⟨o,Y,Z,t,J,bY⟩:=B;exact⟨o,Y,Z,t,q.heap S _ y J,bY⟩
 |succ k ih=>
  intro i s hk hi c B U;have r:i<n:=by omega
  refine codeAny_builtin F.entry_set_update_loop ?_;rw[Around.under_plainId F.plain_set_update_loop _];show wpAny _ A.in1 (pyNext (.ref I) >>= _) _ _ s;refine q04 (W.item i s _ _ r c λv s' hP j q=>?_);obtain⟨g,u,x,D⟩:=hval i v hP;have T:s'.heap.SetOf knd S (λk'=>decide (k'∈met (l.take i))) (met (l.take i)).length:=by
   obtain⟨o,Y,Z,tb,J,bY⟩:=B;exact⟨o,Y,Z,tb,q.heap S _ y J,bY⟩
  show wpAny _ A.in1 (holding [v] (setAdd S v) >>= _) _ _ s';refine q04 (q0Y ?_);unfold setAdd;refine q0Y ?_;refine q04 (knd.pyHash (k:=g) x ?_);have d:(met (l.take i)).length+1<scanBound:=by have:=zM i (l.take i) (by rw[KA];omega);omega
  refine wpAny_setAddHashed_of (knd:=knd) (s:={s' with toks:=s'.toks+1}) x D T d λh' m O=>?_;have ht:l.take (i+1)=l.take i++[g]:=by rw[q0E,u];rfl
  have M:h'.SetOf knd S (λk'=>decide (k'∈met (l.take (i+1)))) (met (l.take (i+1))).length:=
   SetOf_congr O (λk'=>by rw[ht,ut,tY]) (by rw[ht,ut,lW])
  refine q05 ⟨plainId_quiet F.plain_set_update_loop _,ih (i+1) _ ⋯ r (W.frame _ s' _ _ j (Nat.le_succ _) λb hb o e=>?_) M λC p z=>?_⟩
  ·rw[m.2 b (λh:b=S=>hSf (by rw[<- h];exact hb))];exact e
  ·refine U C (Moved.trans W.gtrans ((q.mono a).then_heap (Nat.le_succ _) λb o hb e=>?_) p) z
   rw[m.2 b (λh:b=S=>hb (by rw[h];exact q0B))];exact e
end
def dk(z:Str):List Str:=z.cps.toList.map λc=>(⟨#[c]⟩:Str)
section
variable {prog:K6}{w:K9}{A:K8}{E:KW}{s:K1}
def Aw(s:K1)(led:Bool):Shared:={s with heap:=s.heap.push {cls:=.type "set",dict:=none,data:=.set #[] 0 (.fresh 0 0 led)} }
set_option maxHeartbeats 3200000 in
theorem rD{v:Value}{R:Heap->Nat->Prop}{Q:KW}
  (hi:∀led,(Aw s led).TypeIs (.ref s.heap.objs.size) "set"->codeAny (model prog w) A.in1 (.call (.builtin "set.__init__") {pos:=[.ref s.heap.objs.size,v]})
   (wants (λr s₂=>r=.none/\∃h' tk,s₂={s with heap:=h',toks:=tk}/\R h' tk) E) (Aw s led))
  (h:∀(h':Heap) (tk:Nat),R h' tk->Q (.ref s.heap.objs.size) {s with heap:=h',toks:=tk}) :
  wpAny (model prog w) A (call (.type "set") [v]) Q E s:=by
 obtain⟨c,tl,hmro⟩:=PySem.F.called_set.mro;have hmade:=PySem.F.called_set.made;have hsub:=PySem.F.called_set.sub;refine wpAny_call (codeAny_of_tree ?_);show wpAny _ _ (callAny (.type "set") _) _ _ _;refine q05 ⟨Code.quiet_builtin _ (by decide +kernel),codeAny_builtin PySem.F.entry_type_call ?_⟩;rw[Around.under_plain (weight_type_call_type "set" [v] []) rfl];have h1:=PySem.F.called_set.notType;have h2:=PySem.F.called_set.canCreate;have hct:=PySem.F.typeCall_set_1 v
 repeat (any_goals (first | with_reducible assumption | with_reducible refine q05 ?_ | with_reducible refine q04 ?_ | with_reducible refine q0Y ?_ | with_reducible refine wpAny_of_eq (by assumption) ?_ | with_reducible refine wpAny_isInstance (by assumption) (by assumption) ?_ | with_reducible refine wpAny_specialOf (by assumption) (by assumption) ?_ | with_reducible refine wpAny_call ?_ | ((with_reducible apply wpAny_ite_false);focus (rfl;done)) | wp_delta))
 refine codeAny_mono (code_set_new_1 v (E:=E) (Q₁:=λb d=>∃led:Bool,b=.ref s.heap.objs.size/\d=Aw s led) λled=>⟨led,rfl,rfl⟩) λr d hr=>?_;cases r with
 |error e=>exact hr
 |ok fl=>
  cases fl with
  |ret b=>
   obtain⟨led,rfl,rfl⟩:=hr;have i:(Aw s led).TypeIs (.ref s.heap.objs.size) "set":=⟨_,J4 _ rfl,rfl⟩;have hli:=PySem.F.called_set.init.lookup;have hbi:=PySem.F.called_set.init.bind (.ref s.heap.objs.size)
   repeat (any_goals (first | with_reducible assumption | with_reducible refine q05 ?_ | with_reducible refine q04 ?_ | with_reducible refine q0Y ?_ | with_reducible refine wpAny_of_eq (by assumption) ?_ | with_reducible refine wpAny_isInstance (by assumption) (by assumption) ?_ | with_reducible refine wpAny_specialOf (by assumption) (by assumption) ?_ | with_reducible refine wpAny_call ?_ | ((with_reducible apply wpAny_ite_false);focus (rfl;done)) | wp_delta))
   refine codeAny_mono (hi led i) λg s₂ a=>?_;cases g with
   |error e=>exact a
   |ok fl₂=>
    cases fl₂ with
    |ret r=>
     obtain⟨rfl,h',tk,rfl,j⟩:=a
     repeat (any_goals (first | with_reducible assumption | with_reducible refine q05 ?_ | with_reducible refine q04 ?_ | with_reducible refine q0Y ?_ | with_reducible refine wpAny_of_eq (by assumption) ?_ | with_reducible refine wpAny_isInstance (by assumption) (by assumption) ?_ | with_reducible refine wpAny_specialOf (by assumption) (by assumption) ?_ | with_reducible refine wpAny_call ?_ | ((with_reducible apply wpAny_ite_false);focus (rfl;done)) | wp_delta))
     exact h _ _ j
    |_=>exact a.elim
  |_=>exact hr.elim
theorem pJ{x:Str}{t:Tok}{Q:KW}(hh:A.handled=none)(hb:x.cps.size+1<scanBound)
  (h:∀(h':Heap) (tk:Nat),h'.SetOf (strKind prog w) s.heap.objs.size (λk'=>decide (k'∈met (dk x))) (met (dk x)).length ->
   (∀b o,s.heap.get? b=some o->h'.get? b=some o)->Q (.ref s.heap.objs.size) {s with heap:=h',toks:=tk}) :
  wpAny (model prog w) A (call (.type "set") [.str x t]) Q E s:=by
 refine rD (R:=λh' _=>h'.SetOf (strKind prog w) s.heap.objs.size (λk'=>decide (k'∈met (dk x))) (met (dk x)).length/\∀b o,s.heap.get? b=some o->h'.get? b=some o)
  (λa q=>?_) λh' tk hr=>h h' tk hr.1 hr.2
 refine codeAny_call_builtin PySem.F.called_set.init.plain PySem.F.entry_set_init (check_set_init_1 q ?_);unfold Aw at q ⊢;have B:(s.heap.push {cls:=.type "set",dict:=none,data:=.set #[] 0 (.fresh 0 0 a)}).get? s.heap.objs.size=some {cls:=.type "set",dict:=none,data:=.set #[] 0 (.fresh 0 0 a)}:=J4 _ rfl;have hsls:=PySem.F.sub_str_set;have hslf:=PySem.F.sub_str_frozenset;have hne:(Value.type "str" == Value.type "dict")=false:=by decide
 unfold Builtin.«set.__init__» noKeywords Builtin.Frozenset.updateFrom;generalize n:pyIter=PI
 wp_walk
 subst n;refine wpAny_pyIter_str λo St W k=>?_;refine q04 (wpAny_runValue ?_);have l:s.heap.objs.size∉[(s.heap.push {cls:=.type "set",dict:=none,data:=.set #[] 0 (.fresh 0 0 a)}).objs.size]:=by
  rw[Heap.size_push];simp only[J0]
  exact Kf (Ku _)
 refine C_ (knd:=strKind prog w) ((W _ (by simp[hh])).toS) s.heap.objs.size l (dk x) (by simp[dk])
  (λi v ⟨c,u,z,p⟩=>⟨⟨#[c]⟩,by unfold dk;rw[J1,q0G,z];rfl,by rw[p];exact strKind_is _ _ _ _,by rw[p];rfl⟩) hb (x.cps.size-0) 0 _ ⋯ (Kk _) k ?hS0 ?hR
 case hS0=>
  exact SetOf_congr ((setObjOf_fresh (knd:=strKind prog w) a).setOf (JY _ B) (by unfold scanBound;omega)) (λ_=>rfl) rfl
 case hR=>
  intro r d m;obtain⟨h',C,J,g,j⟩:=r;have G:C=s.gens:=d.gens;have I:J=s.drawn:=d.drawn;have D:j=s.os:=d.os;subst G;subst I;subst D
  show wpAny _ _ _ _ _ _;refine q05 ?_;show wpAny _ _ (ret Value.none) _ _ _;refine q05 ⟨rfl,h',g,rfl,m,λb y e=>?_⟩;have hb:=Km e;refine d.heap b y ?_ (JY _ (JY _ e));simp only[Kb,List.not_mem_nil,or_false,not_or,Heap.size_push];exact⟨Kf hb,Kf (Nat.lt_succ_of_lt hb)⟩
end
def rK(t:TE):TE:=λσ H Q=>t σ H λx H1=>∃z,x=.str z/\z.cps.size+1<scanBound/\Q (.int (met (dk z)).length) H1
section
variable {X:Cx}{e:Expr}{t:TE}{p p2 pos pos2:Pos}
theorem yR(hc:X.calm=true)(ha:PE X e t)(g1:Gl X "len")(m1:X.mg "len"=none)(g2:Gl X "set")(m2:X.mg "set"=none)
  (he1:autoParam (starEach [.Call (.Name "set" p2) [e] [] pos2] X.env=[(false,eval (.Call (.Name "set" p2) [e] [] pos2) X.env)]) zz0._auto_1)
  (he2:autoParam (starEach [e] X.env=[(false,eval e X.env)]) zz0._auto_1) :
  PE X (.Call (.Name "len" p) [.Call (.Name "set" p2) [e] [] pos2] [] pos) (rK t):=by
 intro a s σ H Q I h;have k:bootBuiltins "len"=some (.builtin "len"):=by decide +kernel
 have i:bootBuiltins "set"=some (.type "set"):=by decide +kernel
 refine wpAny_Call_Name_kw (eG I g1 m1 k ?_);refine PyProof.Rows.callWith_builtin1 ?_ he1 rfl;rw[he1];show wpAny _ _ (spliced [(false,eval (.Call (.Name "set" p2) [e] [] pos2) X.env)]) _ _ _;refine Calls.spliced_cons ?_;refine wpAny_Call_Name_kw (eG (I.tok _) g2 m2 i ?_);refine PyProof.Rows.callWith_type1 ?_ he2 rfl;rw[he2];show wpAny _ _ (spliced [(false,eval e X.env)]) _ _ _;refine Calls.spliced_cons (cq (ha a _ σ H _ (I.tok _) h) λu s1 ⟨x,H1,v,g,z,r,c,q⟩=>Calls.spliced_nil ?_);subst r;obtain⟨tk,rfl⟩:=g;refine pJ (I.ok.hd hc) c λh' tk' n l=>Calls.spliced_nil ?_;obtain⟨o,j,b,es,ep,tb,hd,_,_,d,m⟩:=n.objOf;have hle:=zM z.cps.size (dk z) (by simp[dk]);have hb:z.cps.size<4096:=by unfold scanBound at c;omega
 refine call_len_set j b hd m (by rw[d];have:((4096:Nat):Int)<2^63:=(by decide);omega) ?_;rw[d];exact⟨.int _,H1,(v.kept (t':=_) l),⟨_,rfl⟩,q⟩
end
abbrev NT:=List (Str×Addr×List Nat)
def uK(t:NT):List (cM×V):=t.map λx=>(Sum.inr x.1,V.ref x.2.1)
def wV(ns:K0):List V:=ns.map fun(n:Nat)=>V.int (n:Int)
structure df(H:Hp)(p:Addr)(t:NT):Prop where
 dict:H p=some (.dK (uK t))
 list:∀x∈t,H x.2.1=some (.lst (wV x.2.2))
 apart:(t.map (·.2.1)).Nodup
theorem df.grow{H H':Hp}{p:Addr}{t:NT}(N:df H p t)(k:∀a o,H a=some o->H' a=some o):df H' p t:=⟨k _ _ N.dict,λx hx=>k _ _ (N.list x hx),N.apart⟩
theorem Bg(z:Str):∀t:NT,dM (uK t) (.inr z)=(t.find? λx=>decide (x.1=z)).map λx=>V.ref x.2.1
 | []=>rfl
 |x::t=>by
  have ih:=Bg z t;unfold uK at ih ⊢;rw[Kq,List.find?_cons]
  by_cases e:x.1=z
  ·rw[gJ (by rw[e])];simp[e]
  ·rw[gG (λh=>e (Sum.inr.inj h)),ih];simp[e]
theorem df.new{H:Hp}{p l:Addr}{t:NT}{z:Str}(N:df H p t)(hl:H l=none)(hz:dM (uK t) (.inr z)=none) :
  df (aD (aD H l (.lst [])) p (.dK (dw (uK t) (.inr z) (.ref l)))) p (t++[(z,l,[])]):=by
 have d:p≠l:=λe=>by have:=N.dict;rw[e,hl]at this;exact nomatch this
 have c:∀x∈t,x.2.1≠l/\x.2.1≠p:=λx c=>by
  have q:=N.list x c
  constructor
  ·intro e;rw[e,hl]at q;exact nomatch q
  ·intro e;rw[e,N.dict]at q;exact nomatch q
 refine⟨?_,λx h=>?_,?_⟩
 ·rw[af,BG _ hz];unfold uK;rw[J_];rfl
 ·rcases J'.mp h with h | h
  ·rw[ar (c x h).2,ar (c x h).1];exact N.list x h
  ·rw[J0.mp h,ar (Ne.symm d),af];rfl
 ·rw[J_]
  refine List.nodup_append.mpr ⟨N.apart,by simp,λa i b g=>?_⟩;obtain⟨x,h1,rfl⟩:=KI.mp i;rw[List.map_singleton]at g;rw[J0.mp g];exact(c x h1).1
theorem df.put{H:Hp}{p:Addr}{t:NT}{i k:Nat}{x:Str×Addr×List Nat}(N:df H p t)(hi:t[i]?=some x) :
  df (aD H x.2.1 (.lst (wV (x.2.2++[k])))) p (t.set i (x.1,x.2.1,x.2.2++[k])):=by
 have l:x∈t:=J2 hi;have g:p≠x.2.1:=λe=>by have:=N.list x l;rw[<- e,N.dict]at this;exact nomatch this
 have a:i<t.length:=(JX.mp hi).1;have m:uK (t.set i (x.1,x.2.1,x.2.2++[k]))=uK t:=by
  unfold uK;apply List.ext_getElem?;intro j;rw[J1,J1,List.getElem?_set]
  by_cases e:i=j
  ·subst e;rw[q07 rfl,q07 a,hi];rfl
  ·rw[q06 e]
 have n:(t.set i (x.1,x.2.1,x.2.2++[k])).map (·.2.1)=t.map (·.2.1):=by
  apply List.ext_getElem?;intro j;rw[J1,J1,List.getElem?_set]
  by_cases e:i=j
  ·subst e;rw[q07 rfl,q07 a,hi];rfl
  ·rw[q06 e]
 refine⟨by rw[ar g,m];exact N.dict,λy d=>?_,by rw[n];exact N.apart⟩;obtain⟨j,b⟩:=List.mem_iff_getElem?.mp d;rw[List.getElem?_set]at b
 by_cases e:i=j
 ·rw[q07 e,q07 a]at b
  cases b;exact af
 ·rw[q06 e]at b
  have c:y.2.1≠x.2.1:=by
   intro q;have h1:(t.map (·.2.1))[i]?=some x.2.1:=by rw[J1,hi];rfl
   have h2:(t.map (·.2.1))[j]?=some x.2.1:=by rw[J1,b];simp[q]
   exact e ((List.getElem?_inj (JX.mp h1).1 N.apart).mp (h1.trans h2.symm))
  rw[ar c];exact N.list y (J2 b)
def i9(t:NT):List (Str×List Nat):=t.map λx=>(x.1,x.2.2)
def cv(m:List (Str×List Nat))(z:Str):List (Str×List Nat):=if z∈m.map (·.1) then m else m++[(z,[])]
theorem Aq{t:NT}{z:Str}{v:V}(h:dM (uK t) (.inr z)=some v):∃(i:Nat) (x:Str×Addr×List Nat),t[i]?=some x/\x.1=z/\v=.ref x.2.1:=by
 rw[Bg]at h;cases a:t.find? (λx=>decide (x.1=z)) with
 |none=>rw[a]at h;exact nomatch h
 |some x=>
  rw[a]at h;have c:V.ref x.2.1=v:=q0S h;obtain⟨i,d⟩:=List.mem_iff_getElem?.mp (List.mem_of_find?_eq_some a);have b:=List.find?_some a;exact⟨i,x,d,of_decide_eq_true b,c.symm⟩
theorem xA(t:NT):(i9 t).map (·.1)=t.map (·.1):=by unfold i9;rw[Ka];rfl
theorem Ex{t:NT}{z:Str}(h:dM (uK t) (.inr z)=none):¬ z∈(i9 t).map (·.1):=by
 intro m;rw[xA]at m;obtain⟨x,a,e⟩:=KI.mp m;refine AA h (KI.mpr ⟨(.inr x.1,.ref x.2.1),KI.mpr ⟨x,a,rfl⟩,?_⟩);show(Sum.inr x.1:cM)=Sum.inr z;rw[e]
theorem df.setdef{H:Hp}{p l:Addr}{t:NT}{z:Str}{Q:VK}(N:df H p t)(hl:H l=none)(hn:t.length<sizeLine)
  (h:∀(H':Hp) (t':NT) (i:Nat) (x:Str×Addr×List Nat),df H' p t'->t'[i]?=some x->x.1=z->i9 t'=cv (i9 t) z->(∀y∈t',y∈t\/y.2.1=l)->(∀a o,a≠p->H a=some o->H' a=some o)->Q (.ref x.2.1) H') :
  ∃kvs k,aD H l (.lst []) p=some (.dK kvs)/\V.str z=kV k/\kvs.length<sizeLine/\(∀v,dM kvs k=some v->Q v (aD H l (.lst []))) /\
   (dM kvs k=none->Q (.ref l) (aD (aD H l (.lst [])) p (.dK (dw kvs k (.ref l))))):=by
 have hpl:p≠l:=λe=>by have:=N.dict;rw[e,hl]at this;exact nomatch this
 have b:∀a o,H a=some o->aD H l (.lst []) a=some o:=λa o e=>by
  rw[ar (λq=>by rw[q,hl]at e;exact nomatch e)];exact e
 refine⟨uK t,.inr z,b _ _ N.dict,rfl,by unfold uK;rw[JZ];exact hn,λv m=>?_,λd=>?_⟩
 ·obtain⟨i,x,j,g,rfl⟩:=Aq m
  refine h _ t i x (N.grow b) j g ?_ (λy c=>.inl c) λa o _ e=>b a o e;have n:z∈(i9 t).map (·.1):=by rw[xA];exact KI.mpr ⟨x,J2 j,g⟩
  unfold cv;rw[q07 n]
 ·refine h _ (t++[(z,l,[])]) t.length (z,l,[]) (N.new hl d) (by simp) rfl ?_ (λy c=>(J'.mp c).imp id λq=>by rw[J0.mp q]) λa o r e=>by rw[ar r];exact b a o e
  unfold cv;rw[q06 (Ex d)];unfold i9;rw[J_];rfl
theorem Cq{t:NT}{i:Nat}{x:Str×Addr×List Nat}(k:Nat):i9 (t.set i (x.1,x.2.1,x.2.2++[k]))=(i9 t).set i (x.1,x.2.2++[k]):=by
 unfold i9;rw[List.map_set]
theorem kf{m:List (Str×List Nat)}{z:Str}(h:(m.map (·.1)).Nodup):((cv m z).map (·.1)).Nodup:=by
 unfold cv
 by_cases e:z∈m.map (·.1)
 ·rw[q07 e];exact h
 ·rw[q06 e,J_]
  refine List.nodup_append.mpr ⟨h,by simp,λa d b c=>?_⟩;rw[List.map_singleton]at c;rw[J0.mp c];exact λq=>e ((show a=z from q)▸d)
section
variable {X:Cx}{K:KY}{tg:Expr}
theorem Cs{a:Expr}{ta:TA}{p pos:Pos}(hK:X.K=K)(hg:Gl X "reversed")(hm:X.mg "reversed"=none)(ha:PA X [a] ta)(hs:autoParam (starEach [a] X.env=[(false,eval a X.env)]) zz0._auto_1):PI X tg (.Call (.Name "reversed" p) [a] [] pos) (Cp K ta):=hK▸AO hg hm ha hs
end
theorem tU{X:Cx}{e:Expr}{t:TA}{x:Str}{j:Nat}{p apos cpos:Pos}(ha:PA X [e] t)(hline:(apos.endLine==cpos.line)=true)(hs:starEach [e] X.env=[(false,eval e X.env)]) :
  PE X (.Call (.Attribute (.Constant (.str x) j p) "join" apos) [e] [] cpos) (FM X.K "str" (tL X.K) (tC (.str x)) t):=
 cP PySem.F.plainAttrs_str PySem.F.slot_str_join PySem.F.type_str_join C5 jJ ha rfl (by rw[hs];rfl) hline hs rfl
theorem EA{X:Cx}{K:KY}{e:Expr}{t:TA}{x:Str}{j:Nat}{p apos cpos:Pos}(hK:X.K=K)(ha:PA X [e] t)(hline:(apos.endLine==cpos.line)=true)(hs:starEach [e] X.env=[(false,eval e X.env)]) :
  PE X (.Call (.Attribute (.Constant (.str x) j p) "join" apos) [e] [] cpos) (FM K "str" (tL K) (tC (.str x)) t):=hK▸tU ha hline hs
end L2
namespace QL
open PySem PySem.Spec PyProof.Rows
theorem A3:bootBuiltins "max"=some (.builtin "max"):=by decide +kernel
end QL
namespace L2
open PySem PySem.Spec PyProof.Rows
section
variable {X:Cx}{CX:j4}{k:Nat}{C:Addr}{ps:K7}{sp:Sp}{m:Str}{pos apos:Pos}{e o:Expr}{es:Lb}{t:TA}{ta:TE}
theorem pA{K:KY}(hK:X.K=K):bj X (compareOp .NotIn) (Hd K true):=hK▸kz
end
end L2
namespace L2
open PySem PySem.Spec PyProof.Rows QL
section
variable {K:KY}{g:TG}{ti:TT}{te:TE}{σ:St}{H:Hp}{Q:List V->Hp->Prop}{α:Type}
theorem fX{as:List α}{f:α->Option V}{i:Nat}{x:α}(hx:as[i]?=some x):(as.take (i+1)).filterMap f=(as.take i).filterMap f++(f x).toList:=by
 rw[q0E,hx,List.filterMap_append];show _++List.filterMap f [x]=_;cases h:f x<;>simp[h]
theorem sI{as:List α}{f:α->Option V}(i:Nat):((as.take i).filterMap f).length<=as.length:=Ks (List.length_filterMap_le _ _) (by rw[KA];omega)
theorem e_{as:List α}(f:α->V):as.filterMap (λx=>some (f x))=as.map f:=by induction as with | nil=>rfl | cons x xs ih=>simp
theorem c7{a:Addr}{as:List α}{emb:α->V}{f:α->Option V}(S:St->Prop)(h0:S σ)(hl:∀H',aB H H'->aN K H' a (as.map emb))(hn:as.length<=1000000)
  (hs:∀(i:Nat) x,as[i]?=some x->∀σ H' (N1:V->St->Hp->Prop) (N0:St->Hp->Prop),S σ->aB H H'->(∀v σ2 H2,f x=some v->aB H H2->S σ2->N1 v σ2 H2)->(∀σ2 H2,f x=none->aB H H2->S σ2->N0 σ2 H2) ->
   g (emb x) σ H' λσ2 H3=>ti σ2 H3 λb H4=>if b=true then te σ2 H4 λv H5=>N1 v σ2 H5 else N0 σ2 H4)
  (he:∀H',aB H H'->Q (as.filterMap f) H'):eR (An K a) g ti te σ H Q:=by
 refine dR (xs:=as.map emb) (λi c σ H'=>aB H H'/\c=(as.take i).filterMap f/\i<=as.length/\S σ) ⟨λ_ _ e=>e,rfl,Kk _,h0⟩ ?_ ?_ ?_ ?_ ?_
 ·rintro i c σ H' ⟨_,rfl,_⟩
  have:=sI (as:=as) (f:=f) i;exact aX ⋯
 ·rintro i c σ H' ⟨_,_,h,_⟩
  rw[JZ];exact h
 ·rintro i c σ H' ⟨j,_⟩
  exact hl _ j
 ·rintro i x c σ H' k ⟨j,rfl,hi,m⟩
  have d:i<as.length:=by have:=(JX.mp k).1;rwa [JZ]at this
  rw[J1,JW d]at k;cases k;have l:as[i]?=some as[i]:=JW d;refine hs i as[i] l σ H' (λv σ2 H5=>_) (λσ2 H4=>_) m j (λv σ2 H2 hf s2 hS2=>⟨s2,?_,d,hS2⟩) (λσ2 H2 hf s2 hS2=>⟨s2,?_,d,hS2⟩)
  ·rw[fX l,hf];rfl
  ·rw[fX l,hf];simp
 ·rintro c σ H' ⟨j,rfl,_⟩
  have e:(as.take (as.map emb).length).filterMap f=as.filterMap f:=by rw[JZ,Kz]
  rw[e];exact he _ j
theorem vU{a:Addr}{as:List α}{emb:α->V}{f:Nat->α->Option V}(S:St->Prop)(h0:S σ)(hl:∀H',aB H H'->aN K H' a (as.map emb))(hn:as.length<=1000000)
  (hs:∀(i:Nat) x,as[i]?=some x->∀σ H' T (N1:V->St->Hp->Prop) (N0:St->Hp->Prop),S σ->aB H H'->H' T=none->(∀v σ2 H2,f i x=some v->aB H H2->S σ2->N1 v σ2 H2)->(∀σ2 H2,f i x=none->aB H H2->S σ2->N0 σ2 H2) ->
   g (.ref T) σ (aD H' T (.tup [.int (i:Int),emb x])) λσ2 H3=>ti σ2 H3 λb H4=>if b=true then te σ2 H4 λv H5=>N1 v σ2 H5 else N0 σ2 H4)
  (he:∀H',aB H H'->Q (as.zipIdx.filterMap λx=>f x.2 x.1) H'):eR (FN K a) g ti te σ H Q:=by
 have l:as.zipIdx.length=as.length:=List.length_zipIdx;refine gR (J:=FN K a) (n:=as.length) (λi c σ H'=>aB H H'/\c=(as.zipIdx.take i).filterMap (λx=>f x.2 x.1)/\i<=as.length/\S σ) ⟨λ_ _ e=>e,rfl,Kk _,h0⟩ ?_ ?_ ?_ ?_ ?_ ?_
 ·rintro i c σ H' ⟨_,rfl,_⟩
  have:=sI (as:=as.zipIdx) (f:=λx=>f x.2 x.1) i;exact aX ⋯
 ·rintro i c σ H' ⟨_,_,h,_⟩
  exact h
 ·rintro c σ H' ⟨j,_⟩
  exact⟨_,hl _ j,by rw[JZ];exact Kj _⟩
 ·rintro i c σ H' d ⟨j,_⟩
  exact⟨_,emb as[i],hl _ j,by rw[J1,JW d];rfl⟩
 ·rintro i x c σ H' H2 d ⟨j,rfl,hi,q⟩ ⟨T,y,rfl,p,rfl,k⟩
  have m:as[i]?=some as[i]:=JW d;have k:=k _ (hl _ j);rw[J1,m]at k;cases k;have o:as.zipIdx[i]?=some (as[i],i):=by rw[List.getElem?_zipIdx,m];simp
  refine hs i as[i] m σ H' T (λv σ2 H5=>_) (λσ2 H4=>_) q j p (λv σ2 H2 hf s2 hS2=>⟨s2,?_,d,hS2⟩) (λσ2 H2 hf s2 hS2=>⟨s2,?_,d,hS2⟩)
  ·rw[fX o];simp only[hf];rfl
  ·rw[fX o];simp[hf]
 ·rintro c σ H' ⟨j,rfl,_⟩
  have e:(as.zipIdx.take as.length).filterMap (λx=>f x.2 x.1)=as.zipIdx.filterMap (λx=>f x.2 x.1):=by rw[<- l,Kz]
  rw[e];exact he _ j
theorem f_{n:Nat}{f:Nat->Option V}(S:St->Prop)(h0:S σ)(hn:n<=1000000)
  (hs:∀i,i<n->∀σ H' (N1:V->St->Hp->Prop) (N0:St->Hp->Prop),S σ->aB H H'->(∀v σ2 H2,f i=some v->aB H H2->S σ2->N1 v σ2 H2)->(∀σ2 H2,f i=none->aB H H2->S σ2->N0 σ2 H2) ->
   g (.int (0+(i:Int))) σ H' λσ2 H3=>ti σ2 H3 λb H4=>if b=true then te σ2 H4 λv H5=>N1 v σ2 H5 else N0 σ2 H4)
  (he:∀H',aB H H'->Q ((List.range n).filterMap f) H'):eR (yS 0 n) g ti te σ H Q:=by
 refine jW (lo:=0) (n:=n) (λi a σ H'=>aB H H'/\a=(List.range i).filterMap f/\i<=n/\S σ) ⟨λ_ _ e=>e,rfl,Kk _,h0⟩ ?_ ?_ ?_ ?_
 ·rintro i a σ H' ⟨_,rfl,c,_⟩
  have:=List.length_filterMap_le f (List.range i);rw[q0J]at this;exact aX ⋯
 ·rintro i a σ H' ⟨_,_,h,_⟩
  exact h
 ·rintro i a σ H' c ⟨d,rfl,_,j⟩
  refine hs i c σ H' (λv σ2 H5=>_) (λσ2 H4=>_) j d (λv σ2 H2 hf s2 hS2=>⟨s2,?_,c,hS2⟩) (λσ2 H2 hf s2 hS2=>⟨s2,?_,c,hS2⟩)
  ·rw[q0M,List.filterMap_append];simp[hf]
  ·rw[q0M,List.filterMap_append];simp[hf]
 ·rintro a σ H' ⟨d,rfl,_⟩
  exact he _ d
theorem yw{r:K0}{f:Nat->Option V}(S:St->Prop)(h0:S σ)(hn:r.length<=1000000)
  (hs:∀c∈r,∀σ H' (N1:V->St->Hp->Prop) (N0:St->Hp->Prop),S σ->aB H H'->(∀v σ2 H2,f c=some v->aB H H2->S σ2->N1 v σ2 H2)->(∀σ2 H2,f c=none->aB H H2->S σ2->N0 σ2 H2) ->
   g (.str ⟨#[c]⟩) σ H' λσ2 H3=>ti σ2 H3 λb H4=>if b=true then te σ2 H4 λv H5=>N1 v σ2 H5 else N0 σ2 H4)
  (he:∀H',aB H H'->Q (r.filterMap f) H'):eR (E8 (tx r)) g ti te σ H Q:=by
 have d:(tx r).cps.size=r.length:=by show r.toArray.size=_;simp
 refine uR (x:=tx r) (λi a σ H'=>aB H H'/\a=(r.take i).filterMap f/\i<=r.length/\S σ) ⟨λ_ _ e=>e,rfl,Kk _,h0⟩ ?_ ?_ ?_ ?_
 ·rintro i a σ H' ⟨_,rfl,_⟩
  have:=sI (as:=r) (f:=f) i;exact aX ⋯
 ·rintro i a σ H' ⟨_,_,h,_⟩
  rw[d];exact h
 ·rintro i c a σ H' m ⟨l,rfl,_,n⟩
  have k:r[i]?=some c:=by rw[<- m];show r[i]?=r.toArray[i]?;simp
  have j:=(JX.mp k).1;refine hs c (J2 k) σ H' (λv σ2 H5=>_) (λσ2 H4=>_) n l (λv σ2 H2 hf s2 hS2=>⟨s2,?_,j,hS2⟩) (λσ2 H2 hf s2 hS2=>⟨s2,?_,j,hS2⟩)
  ·rw[fX k,hf];rfl
  ·rw[fX k,hf];simp
 ·rintro a σ H' ⟨l,rfl,_⟩
  have e:(r.take (tx r).cps.size).filterMap f=r.filterMap f:=by rw[d,Kz]
  rw[e];exact he _ l
end
end L2
namespace ThM
open PySem L2
def addNew(ks:K7)(z:Str):List Str:=if z∈ks then ks else ks++[z]
theorem mem_addNew{ks:K7}{z y:Str}:y∈addNew ks z↔y∈ks\/y=z:=by
 unfold addNew
 split
 ·rename_i h
  exact⟨.inl,λq=>q.elim id λe=>e▸h⟩
 ·rw[J',J0]
def trueD(zs:K7):List (cM×V):=zs.map λz=>(Sum.inr z,V.bl true)
theorem trueD_val(z:Str):∀zs:List Str,(dM (trueD zs) (.inr z)).isSome=decide (z∈zs)
 | []=>rfl
 |y::zs=>by
  have ih:=trueD_val z zs;unfold trueD at ih ⊢;rw[Kq]
  by_cases e:y=z
  ·rw[gJ (by rw[e])]
   simp[e]
  ·rw[gG (λq=>e (Sum.inr.inj q)),ih]
   have:¬ z=y:=λq=>e q.symm;simp[this]
theorem trueD_put(zs:K7)(z:Str):dw (trueD zs) (.inr z) (V.bl true)=trueD (addNew zs z):=by
 unfold dw;rw[gy,trueD_val];unfold addNew
 by_cases h:z∈zs
 ·rw[q09 h,q07 rfl,q07 h]
  unfold trueD;rw[Ka];refine q0K λy _=>?_;show(if(Sum.inr y:cM)=Sum.inr z then _ else _)=_
  split<;>rfl
 ·rw[q08 h,q06 (by decide),q06 h]
  unfold trueD;rw[J_];rfl
theorem trueD_len(zs:K7):(trueD zs).length=zs.length:=by unfold trueD;rw[JZ]
section
variable {α:Type}(f:List α->List α)
def GF:Nat->List α->List α
 |0,s=>s
 |n+1,s=>f (GF n s)
variable {f}
end
abbrev NR:=Str×List Str
def Ca(ks:K7)(r:NR):List Str:=if(∀z∈r.2,z∈ks) then addNew ks r.1 else ks
def BM(rs:List NR)(ks:K7):List Str:=rs.foldl Ca ks
theorem nd_len{ks ms:K7}(hn:ks.Nodup)(h:∀z∈ks,z∈ms):ks.length<=ms.length:=by
 induction ks generalizing ms with
 |nil=>exact Kk _
 |cons k ks ih=>
  rw[q0d]at hn;have c:=h k q0B;have h1:=ih (ms:=ms.erase k) hn.2 λz b=>by
   have a:z≠k:=λe=>hn.1 (e▸b);exact(List.mem_erase_of_ne a).mpr (h z (Kc _ b))
  have h2:=List.length_erase_of_mem c;have h3:=List.length_pos_of_mem c;rw[J9];omega
def Em(rs:List NR):List Str:=GF (BM rs) rs.length []
end ThM
namespace ThM
open PySem L2
theorem kD{y:Str}:∀(zs ks:K7),y∈zs.foldl addNew ks↔y∈ks\/y∈zs
 | [],ks=>by simp
 |z::zs,ks=>by
  rw[List.foldl_cons,kD zs,mem_addNew,Kb];exact⟨λh=>h.elim (λh=>h.elim .inl λe=>.inr (.inl e)) λh=>.inr (.inr h),λh=>h.elim (λh=>.inl (.inl h)) λh=>h.elim (λe=>.inl (.inr e)) .inr⟩
def zZ(ks:K7)(r:NR):List Str:=if r.1∈ks then r.2.foldl addNew ks else ks
def yj(rs:List NR)(ks:K7):List Str:=rs.foldl zZ ks
def FI(ks:K7)(r:NR):Prop:=r.1∈ks/\∀z∈r.2,z∈ks
noncomputable instance (ks:K7)(r:NR):Decidable (FI ks r):=by unfold FI;infer_instance
def Eh(st:Str)(rs:List NR):List Str:=GF (yj rs) rs.length [st]
def DR(rs:List NR)(r:NR):Bool:=decide (∀z∈r.2,z∈Em rs)
def G2(rs:List NR):List NR:=rs.filter (DR rs)
def Gs(st:Str)(rs:List NR):List Str:=Eh st (G2 rs)
def keep(st:Str)(rs:List NR)(r:NR):Bool:=decide (r.1∈Gs st rs)&&DR rs r
end ThM
namespace L2
open PySem PySem.Spec PyProof.Rows
section
variable {X:Cx}{body:List Stmt}{h₀:ExceptHandler}{hs:List ExceptHandler}{tb:TS}{pos:Pos}
theorem mO{e:Expr}{ta:TE}{f:Str}{K:KY}(hK:X.K=K)(he:PE X e ta)(hb:attributeBase e f X.env (eval e X.env)=eval e X.env):PE X (.Attribute e f pos) (CO K ta f):=hK▸cC he hb
def Fc(xs ys:List V):Bool:=(List.range (min xs.length ys.length)).all (λj=>match xs[j]?,ys[j]? with | some x,some y=>uf x y | _,_=>true)&&xs.length==ys.length
def Db(K:KY):R2:=λx y H Q=>∃a b xs ys,x=.ref a/\y=.ref b/\dt K H a xs/\dt K H b ys/\xs.all iy=true/\ys.all iy=true/\Q (.bl (Fc xs ys)) H
theorem EE(hu:X.A.units+64<cLine):bj X (compareOp .Eq) (Db X.K):=by
 intro pins s σ H x y v u Q I rx ry h;obtain⟨a,b,k,g,rfl,rfl,M,L,T,S,q⟩:=h;cases rx;cases ry
 obtain⟨d,w,D,_⟩:=I.tuple M;obtain⟨c,r,C,_⟩:=I.tuple L;have J:=w.length;have G:=r.length
 have B:=SeqAt.RcAt.tuples (A:=X.A) (s:=s) (e:=λj=>match k[j]?,g[j]? with | some x,some y=>uf x y | _,_=>true) (show s.heap.IsTuple a d.toArray from D) (show s.heap.IsTuple b c.toArray from C) ⋯ (λj R O=>by
  have p:j<d.length:=by simpa using R
  have o:j<c.length:=by simpa using O
  have l:k[j]?=some k[j]:=JW ⋯;have i:g[j]?=some g[j]:=JW ⋯;obtain⟨w1,z,n⟩:=w.get l;obtain⟨w2,f2,m⟩:=r.get i;rw[JW p]at z;rw[JW o]at f2;cases z;cases f2
  simp only[KM,l,i];exact fH n m (KJ.mp T _ (J2 l)) (KJ.mp S _ (J2 i)))
 refine B _ _ _ _ ⟨.bl _,H,I,rfl,?_⟩;rw[J5,J5,<- J,<- G];exact q
end
section
variable {X:Cx}{es:Lb}{t:TA}{te:TE}
end
end L2
namespace L2
open PySem PySem.Spec PyProof.Rows
end L2
namespace L2
open PySem PySem.Spec PyProof.Rows QL
def D8(H H':Hp):Prop:=∀b xs,H b=some (.tup xs)->H' b=some (.tup xs)
def vC(np:Nat->Nat):List Nat->List Dt
 | []=>[]
 |n::ns=>.tup (.int (n:Int)::(vC np ns).take (np n))::(vC np ns).drop (np n)
def Gh(np:Nat->Nat):List Nat->Prop
 | []=>True
 |n::ns=>Gh np ns/\np n<=(vC np ns).length
theorem uC:∀{ns:List Int} {us:K2},bp (ns.map V.int) us->∃ps:List (Int×Tok),us.toArray=intItems ps.toArray/\ps.map (·.1)=ns
 | [],us,r=>⟨[],by have:=r.zero;subst this;simp[intItems],rfl⟩
 |n::ns,us,r=>by
  cases r with
  |cons h t=>
   obtain⟨tk,rfl⟩:=h;obtain⟨ps,e1,e2⟩:=uC t;refine⟨(n,tk)::ps,?_,by rw[Kq,e2]⟩;have:=q0R Array.toList e1;unfold intItems at this ⊢;simp at this ⊢;exact this
section
variable {X:Cx}
theorem yb(hc:X.calm=true):eQ X (.builtin "sum") (λxs H Q=>∃(p:Addr) (ns:List Int),xs=[.ref p]/\aN X.K H p (ns.map V.int)/\Q (.int ns.sum) H):=by
 intro pins s σ H xs us Q I r h;obtain⟨p,ns,rfl,g,q⟩:=h;obtain⟨u,rfl,d⟩:=r.one;cases d;obtain⟨its,c,e,_⟩:=I.list g;obtain⟨a,l,k⟩:=uC c;refine sum_intListG (xs:=a.toArray) (I.ok.hd hc) (by rw[<- l];exact e.isList) λh' b t' i=>?_;have j:preSum (numAt a.toArray) a.toArray.size=ns.sum:=by
  rw[preSum_eq,q0F (by simp),<- k]
 rw[j];exact⟨.int _,H,I.kept (t':=b) i,⟨_,rfl⟩,q⟩
theorem Ej:bootBuiltins "sum"=some (.builtin "sum"):=by decide +kernel
end
end L2
namespace L2
open PySem PySem.Spec PyProof.Rows QL aO
theorem Gr{a:Addr}{P:Addr->Prop}:(∃p,V.ref a=V.ref p/\P p)=P a:=by simp
theorem Gq{a:Int}{P:Int->Prop}:(∃p,V.int a=V.int p/\P p)=P a:=by simp
theorem Gw{a:Bool}{P:Bool->Prop}:(∃p,V.bl a=V.bl p/\P p)=P a:=by simp
theorem GZ{a:Str}{P:Str->Prop}:(∃p,V.str a=V.str p/\P p)=P a:=by simp
theorem GT{α:Type}{a:Addr}{P:Addr->α->Prop}:(∃p,∃x,V.ref a=V.ref p/\P p x) = ∃x,P a x:=by simp
theorem GV{α:Type}{a:Addr}{P:Addr->α->Prop}:(∃p,∃x,[V.ref a]=[V.ref p]/\P p x) = ∃x,P a x:=by simp
theorem GM{α:Type}{a:Addr}{v:V}{P:Addr->α->V->Prop}:(∃p,∃x,∃y,V.ref a=V.ref p/\[v]=[y]/\P p x y) = ∃x,P a x v:=by simp
theorem GG{α β:Type}{a b:Addr}{P:Addr->Addr->α->β->Prop}:(∃p,∃q,∃x,∃y,V.ref a=V.ref p/\V.ref b=V.ref q/\P p q x y) = ∃x,∃y,P a b x y:=by simp
def E6(i:Nat):TE:=λσ H Q=>match σ[i]? with
 |some (some v)=>Q v H
 |_=>False
def zT(g:Int->Int->V):R2
 | .int i,.int j,H,Q=>Q (g i j) H
 |x,y,H,Q=>yg g x y H Q
def F1(C:Int->Int->Prop)(g:Int->Int->V):R2
 | .int i,.int j,H,Q=>C i j/\Q (g i j) H
 |x,y,H,Q=>rI C g x y H Q
def xI(K:KY):R2
 | .ref p,.int i,H,Q=>∃xs,aN K H p xs/\∃v,iC xs i=some v/\Q v H
 |x,y,H,Q=>AB K x y H Q
def xk(K:KY):R2
 | .ref p,.int i,H,Q=>∃xs,dt K H p xs/\∃v,iC xs i=some v/\Q v H
 |x,y,H,Q=>Bb K x y H Q
theorem BL{g:Int->Int->V}{x y:V}{H:Hp}{Q:VK}:zT g x y H Q=yg g x y H Q:=by
 unfold zT;split
 ·simp[yg]
 ·rfl
theorem DL{C:Int->Int->Prop}{g:Int->Int->V}{x y:V}{H:Hp}{Q:VK}:F1 C g x y H Q=rI C g x y H Q:=by
 unfold F1;split
 ·simp[rI]
 ·rfl
theorem xL{K:KY}{x y:V}{H:Hp}{Q:VK}:xI K x y H Q=AB K x y H Q:=by
 unfold xI;split
 ·simp[AB]
 ·rfl
theorem xh{K:KY}{x y:V}{H:Hp}{Q:VK}:xk K x y H Q=Bb K x y H Q:=by
 unfold xk;split
 ·simp[Bb]
 ·rfl
theorem CL{g:Int->Int->V}{i j:Int}{H:Hp}{Q:VK}:zT g (.int i) (.int j) H Q=Q (g i j) H:=rfl
theorem D'{C:Int->Int->Prop}{g:Int->Int->V}{i j:Int}{H:Hp}{Q:VK}:F1 C g (.int i) (.int j) H Q=(C i j/\Q (g i j) H):=rfl
theorem BC{K:KY}{p:Addr}{i:Int}{H:Hp}{Q:VK}:xI K (.ref p) (.int i) H Q = ∃xs,aN K H p xs/\∃v,iC xs i=some v/\Q v H:=rfl
theorem zH{K:KY}{p:Addr}{i:Int}{H:Hp}{Q:VK}:xk K (.ref p) (.int i) H Q = ∃xs,dt K H p xs/\∃v,iC xs i=some v/\Q v H:=rfl
theorem Ir{α β:Type}{f:α->β}{a:α}{l:List α}:List.map f (a::l)=f a::List.map f l:=rfl
theorem HB{α β:Type}{f:α->β}:List.map f []=[]:=rfl
theorem Hw{α:Type}{a:α}{l m:List α}:(a::l)++m=a::(l++m):=rfl
theorem Ij{α:Type}{m:List α}:[]++m=m:=rfl
theorem JL{α:Type}{a:α}{l:List α}:(a::l)[0]?=some a:=rfl
theorem HA{α:Type}{a:α}{l:List α}{n:Nat}:(a::l)[n+1]?=l[n]?:=rfl
theorem Jx{α:Type}{a b:α}{l:List α}:(a::l).set 0 b=b::l:=rfl
theorem HP{α:Type}{a b:α}{l:List α}{n:Nat}:(a::l).set (n+1) b=a::l.set n b:=rfl
section
variable {X:Cx}
theorem am(i:Nat){x:Str}{pos:Pos}(hN:autoParam (X.N[i]?=some x) zz0._auto_1)(hv:autoParam (F_ X.env.scope x) zz6._auto_1)(hd:autoParam ((x==("__debug__":Str))=false) zz1._auto_1)
  (hc:autoParam ((x==("__classdict__":Str))=false) zz1._auto_1):PE X (.Name x pos) (E6 i):=λpins s σ H Q I h=>pv i hN hv hd hc pins s σ H Q I (by
 unfold E6 at h
 split at h
 ·exact⟨_,‹_›,h⟩
 ·exact h.elim)
theorem bj.m0{f:Value->Value->Sem Value}{g:Int->Int->V}(h:bj X f (yg g)):bj X f (zT g):=λpins s σ H x y v u Q I a b c=>h pins s σ H x y v u Q I a b (BL▸c)
theorem bj.m1{f:Value->Value->Sem Value}{C:Int->Int->Prop}{g:Int->Int->V}(h:bj X f (rI C g)):bj X f (F1 C g):=λpins s σ H x y v u Q I a b c=>h pins s σ H x y v u Q I a b (DL▸c)
theorem aY:E9 X (xI X.K):=λe sl pins s σ H x y v u Q I a b c d=>xB e sl pins s σ H x y v u Q I a b (xL▸c) d
theorem bH:E9 X (xk X.K):=λe sl pins s σ H x y v u Q I a b c d=>Ep e sl pins s σ H x y v u Q I a b (xh▸c) d
end
inductive TrD:Dt->Prop
 |mk (i:Int) (ds:List Dt):(∀d∈ds,TrD d)->TrD (.tup (.int i::ds))
theorem Cl{X:Cx}{K:KY}(hK:X.K=K)(hu:X.A.units+64<cLine):bj X (compareOp .Eq) (Db K):=hK▸EE hu
section
variable {β:Type}{A:Hp->Addr->β->Prop}
def aS(A:Hp->Addr->β->Prop)(H:Hp)(bs:K3)(ys:List β):Prop:=bs.length=ys.length/\∀(i:Nat) b y,bs[i]?=some b->ys[i]?=some y->A H b y
def jE(A:Hp->Addr->β->Prop)(H:Hp)(l:Addr)(ys:List β):Prop:=∃bs:List Addr,H l=some (.lst (bs.map V.ref))/\aS A H bs ys
theorem aS.nil{H:Hp}:aS A H [] []:=⟨rfl,λi b y e=>by simp at e⟩
theorem aS.mono{A':Hp->Addr->β->Prop}{H H':Hp}{bs:K3}{ys:List β}(h:aS A H bs ys)(u:∀b y,b∈bs->y∈ys->A H b y->A' H' b y):aS A' H' bs ys:=⟨h.1,λi b y e1 e2=>u b y (J2 e1) (J2 e2) (h.2 i b y e1 e2)⟩
theorem aS.snoc{H:Hp}{bs:K3}{ys:List β}{b:Addr}{y:β}(h:aS A H bs ys)(e:A H b y):aS A H (bs++[b]) (ys++[y]):=by
 refine⟨by rw[Ki,Ki,h.1];rfl,λi c z a d=>?_⟩
 by_cases g:i<bs.length
 ·rw[Kh g]at a
  rw[Kh (by rw[<- h.1];exact g)]at d;exact h.2 i c z a d
 ·have kH:i=bs.length:=by
   have:=(JX.mp a).1;simp at this;omega
  subst kH;rw[Kg (Kj _),Nat.sub_self]at a;rw[h.1,Kg (Kj _),Nat.sub_self]at d;cases a;cases d
  exact e
theorem aS.get{H:Hp}{bs:K3}{ys:List β}{i:Nat}{b:Addr}(h:aS A H bs ys)(e:bs[i]?=some b):∃y,ys[i]?=some y/\A H b y:=by
 have c:=(JX.mp e).1;have a:ys[i]?=some (ys[i]'(by rw[<- h.1];exact c)):=JW _;exact⟨_,a,h.2 i b _ e a⟩
theorem aS.one{H:Hp}{b:Addr}{y:β}(e:A H b y):aS A H [b] [y]:=aS.nil.snoc e
theorem aS.two{H:Hp}{b c:Addr}{y z:β}(e:A H b y)(e2:A H c z):aS A H [b,c] [y,z]:=(aS.one e).snoc e2
theorem aS.zip{H:Hp}{bs:K3}{ys:List β}(h:aS A H bs ys):bs.map V.ref=(bs.zip ys).map λx=>V.ref x.1:=by
 have e:=Ka (f:=Prod.fst) (g:=V.ref) (l:=bs.zip ys);rw[List.map_fst_zip (by rw[h.1];exact Kj _)]at e;exact e
theorem aS.at{H:Hp}{bs:K3}{ys:List β}(h:aS A H bs ys){i:Nat}{x:Addr×β}(e:(bs.zip ys)[i]?=some x):ys[i]?=some x.2/\A H x.1 x.2:=by
 obtain⟨b,y⟩:=x;obtain⟨c,a⟩:=List.getElem?_zip_eq_some.mp e;exact⟨a,h.2 i b y c a⟩
end
section
variable {K:KY}{g:TG}{ti:TT}{te:TE}{σ:St}{H:Hp}{Q:List V->Hp->Prop}{α β:Type}
theorem oZ(A:Hp->Addr->β->Prop)(up:∀{H H':Hp} {b:Addr} {y:β},A H b y->aB H H'->A H' b y){a:Addr}{as:List α}{emb:α->V}{ys:List β}(hlen:as.length=ys.length)(S:St->Prop)(h0:S σ)(hl:∀H',aB H H'->aN K H' a (as.map emb))(hn:as.length<=1000000)
  (hs:∀(i:Nat) x y,as[i]?=some x->ys[i]?=some y->∀σ H' (N1:V->St->Hp->Prop) (N0:St->Hp->Prop),S σ->aB H H'->(∀b σ2 H2,A H2 b y->aB H H2->aB H' H2->S σ2->N1 (.ref b) σ2 H2) ->
   g (emb x) σ H' λσ2 H3=>ti σ2 H3 λb H4=>if b=true then te σ2 H4 λv H5=>N1 v σ2 H5 else N0 σ2 H4)
  (he:∀bs H',aB H H'->aS A H' bs ys->Q (bs.map V.ref) H'):eR (An K a) g ti te σ H Q:=by
 refine dR (xs:=as.map emb) (λi c σ H'=>aB H H'/\(∃bs:List Addr,c=bs.map V.ref/\aS A H' bs (ys.take i))/\i<=as.length/\S σ) ⟨λ_ _ e=>e,⟨[],rfl,aS.nil⟩,Kk _,h0⟩ ?_ ?_ ?_ ?_ ?_
 ·rintro i c σ H' ⟨_,⟨bs,rfl,h⟩,_⟩
  have:=h.1;rw[KA]at this;rw[JZ];exact aX ⋯
 ·rintro i c σ H' ⟨_,_,h,_⟩
  rw[JZ];exact h
 ·rintro i c σ H' ⟨j,_⟩
  exact hl _ j
 ·rintro i x c σ H' l ⟨j,⟨bs,rfl,k⟩,hi,n⟩
  have d:i<as.length:=by have:=(JX.mp l).1;rwa [JZ]at this
  rw[J1,JW d]at l;cases l;have m:ys[i]?=some (ys[i]'⋯):=JW ⋯;refine hs i as[i] _ (JW d) m σ H' (λv σ2 H5=>_) (λσ2 H4=>_) n j (λb σ2 H2 hA s2 s3 hS2=>⟨s2,⟨bs++[b],by rw[J_];rfl,?_⟩,d,hS2⟩)
  ·rw[q0E,m]
   exact(k.mono λb y _ _ h=>up h s3).snoc hA
 ·rintro c σ H' ⟨j,⟨bs,rfl,k⟩,_⟩
  have e:ys.take (as.map emb).length=ys:=by rw[JZ,hlen,Kz]
  rw[e]at k;exact he _ _ j k
end
end L2
namespace L2
open PySem PySem.Spec PyProof.Rows QL PySem.Builtin
section
variable {X:Cx}
def v5(z:Str):Value->Bool
 | .str y _=>y.cps.toList==z.cps.toList
 |_=>false
theorem CM{y z:Str}{t:Tok}(h:v5 z (.str y t)=true):y=z:=by
 have h1:y.cps.toList=z.cps.toList:=by simpa[v5]using h
 cases y;cases z
 simp only[Str.mk.injEq];exact Array.toList_inj.mp h1
def rH:V->List V->Hp->VK->Prop:=λx vs H Q=>∃(l:Addr) (ts:K7) (z:Str) (j:Nat),x=.ref l/\vs=[.str z]/\H l=some (.lst (ts.map V.str))/\ts[j]?=some z/\(∀m y,m<j->ts[m]?=some y->y≠z)/\Q (.int (j:Int)) H
theorem yE:GK X "list.index" rH:=by
 intro pins s σ H x vs v us Q I rx rv h;obtain⟨l,c,z,j,rfl,rfl,J,G,B,q⟩:=h;cases rx;obtain⟨u,rfl,M⟩:=rv.one;obtain⟨t,rfl⟩:=M;obtain⟨L,b,n,r,S,e⟩:=I.lstM J;have hjl:j<c.length:=(JX.mp G).1;have k:∀(m:Nat) y,c[m]?=some y->∃d,b[m]?=some (.str y d):=by
  intro m y p;obtain⟨w,R,o⟩:=r.get (i:=m) (x:=.str y) (by rw[J1,p];rfl);obtain⟨d,rfl⟩:=o;exact⟨d,R⟩
 have hll:b.length=c.length:=by rw[<- S,JZ]
 have hsl:=I.lstM J;have O:b.length<=sizeLine:=by
  have:=L;omega
 rw[q0W]at O;refine call_meets F.slot_list_index ⟨_,e,rfl⟩ F.entry_list_index (F.args_list_index_2 _ _)
  (MeetsSeq.list_index l b.toArray n (.str z t) (v5 z) (λy p=>?_) j (by rw[J5];omega) ⋯ ?_ ?_) ⟨e,?_⟩
 ·obtain⟨m,C,U⟩:=List.getElem_of_mem (by simpa using p)
  obtain⟨d,a⟩:=k m (c[m]'⋯) (JW _);rw[JW C,U]at a
  injection a with a
  subst a;exact PySem.SeqRoads2.EqGives.str _ _ _ _
 ·obtain⟨d,a⟩:=k j z G
  rw[JW ⋯]at a
  injection a with a
  show v5 z b[j]=true;rw[a];simp[v5]
 ·intro m C D
  have g:m<c.length:=by rw[J5]at C;omega
  obtain⟨d,a⟩:=k m (c[m]'g) (JW _);rw[JW ⋯]at a
  injection a with a
  show v5 z b[m]=false;rw[a];cases T:v5 z (.str (c[m]'g) d) with
  |false=>rfl
  |true=>exact q0Q (CM T) (B m _ D (JW g))
 ·exact⟨.int _,H,I.tok _,⟨_,rfl⟩,q⟩
end
section
variable {K:KY}{g:TG}{ti:TT}{te:TE}{σ:St}{H:Hp}{Q:List V->Hp->Prop}{α β:Type}
theorem uw{as:List α}{f:α->Option β}{i:Nat}{x:α}(hx:as[i]?=some x):(as.take (i+1)).filterMap f=(as.take i).filterMap f++(f x).toList:=by
 rw[q0E,hx,List.filterMap_append];show _++List.filterMap f [x]=_;cases h:f x<;>simp[h]
theorem u_(A:Hp->Addr->β->Prop)(up:∀{H H':Hp} {b:Addr} {y:β},A H b y->aB H H'->A H' b y){a:Addr}{as:List α}{emb:α->V}{f:α->Option β}(S:St->Prop)(h0:S σ)(hl:∀H',aB H H'->aN K H' a (as.map emb))(hn:as.length<=1000000)
  (hs:∀(i:Nat) x,as[i]?=some x->∀σ H' (N1:V->St->Hp->Prop) (N0:St->Hp->Prop),S σ->aB H H'->(∀b y σ2 H2,f x=some y->A H2 b y->aB H H2->aB H' H2->S σ2->N1 (.ref b) σ2 H2)->(∀σ2 H2,f x=none->aB H H2->aB H' H2->S σ2->N0 σ2 H2) ->
   g (emb x) σ H' λσ2 H3=>ti σ2 H3 λb H4=>if b=true then te σ2 H4 λv H5=>N1 v σ2 H5 else N0 σ2 H4)
  (he:∀bs H',aB H H'->aS A H' bs (as.filterMap f)->Q (bs.map V.ref) H'):eR (An K a) g ti te σ H Q:=by
 refine dR (xs:=as.map emb) (λi c σ H'=>aB H H'/\(∃bs:List Addr,c=bs.map V.ref/\aS A H' bs ((as.take i).filterMap f))/\i<=as.length/\S σ) ⟨λ_ _ e=>e,⟨[],rfl,aS.nil⟩,Kk _,h0⟩ ?_ ?_ ?_ ?_ ?_
 ·rintro i c σ H' ⟨_,⟨bs,rfl,h⟩,_⟩
  have:=h.1;have h2:=List.length_filterMap_le f (as.take i);rw[KA]at h2;rw[JZ];exact aX ⋯
 ·rintro i c σ H' ⟨_,_,h,_⟩
  rw[JZ];exact h
 ·rintro i c σ H' ⟨j,_⟩
  exact hl _ j
 ·rintro i x c σ H' l ⟨j,⟨bs,rfl,k⟩,hi,n⟩
  have d:i<as.length:=by have:=(JX.mp l).1;rwa [JZ]at this
  rw[J1,JW d]at l;cases l;have m:as[i]?=some as[i]:=JW d;refine hs i as[i] m σ H' (λv σ2 H5=>_) (λσ2 H4=>_) n j (λb y σ2 H2 hf hA s2 s3 hS2=>⟨s2,⟨bs++[b],by rw[J_];rfl,?_⟩,d,hS2⟩) (λσ2 H2 hf s2 s3 hS2=>⟨s2,⟨bs,rfl,?_⟩,d,hS2⟩)
  ·rw[uw m,hf]
   exact(k.mono λb y _ _ h=>up h s3).snoc hA
  ·rw[uw m,hf]
   show aS A H2 bs (_++[]);rw[Kv];exact k.mono λb y _ _ h=>up h s3
 ·rintro c σ H' ⟨j,⟨bs,rfl,k⟩,_⟩
  have e:(as.take (as.map emb).length).filterMap f=as.filterMap f:=by rw[JZ,Kz]
  rw[e]at k;exact he _ _ j k
end
end L2
namespace L2
open PySem PySem.Spec PyProof.Rows QL PySem.Builtin PySem.Builtin.Str
section
variable {X:Cx}
def BO:R2:=λx y H Q=>∃(r:K0) (n:Nat),x=.str (tx r)/\y=.int (n:Int)/\1<=n/\n<=1000/\r.length<=1000/\Q (.str (tx (List.replicate n r).flatten)) H
theorem w9(r:K0):∀n (a:K0),(List.replicate n (tx r).cps).foldl (· ++ ·) a.toArray=(a++(List.replicate n r).flatten).toArray
 |0,a=>by simp
 |n+1,a=>by
  rw[q0c,List.foldl_cons,q0c,List.flatten_cons];have:a.toArray++(tx r).cps=(a++r).toArray:=by show a.toArray++r.toArray=_;simp
  rw[this,w9 r n (a++r),Kw]
theorem Df:bj X (binaryOp .Mult) BO:=by
 intro pins s σ H x y v u Q I rx ry h;obtain⟨r,n,rfl,rfl,n1,n2,hr,q⟩:=h;obtain⟨t,rfl⟩:=rx;obtain⟨t',rfl⟩:=ry;have hl:(tx r).length*n<=1000*1000:=by rw[ax];exact Nat.mul_le_mul hr n2
 refine P.mul_str ?_ (λ_ _=>?_) (λ_ _=>?_) ?_
 ·rw[q08 ⋯,q08 ⋯];rfl
 ·have h1:((tx r).length:Int)<=1000:=by rw[ax];omega
  have h2:(1000:Int)<=(2 ^ 63-1)/(n:Int):=by
   rw[Int.le_ediv_iff_mul_le ⋯];omega
  omega
 ·rw[J7]
  show decide (_>sizeLine)=false;rw[decide_eq_false_iff_not];have:=q0W;omega
 ·rw[q06 ⋯]
  split
  ·rename_i hc
   have e:tx (List.replicate n r).flatten=tx r:=by
    rcases(by simpa[ax]using hc:(n:Int)=1\/r=[]) with h | h
    ·have:n=1:=by omega
     subst this;simp
    ·subst h;simp
   rw[e]at q;exact⟨.str (tx r),H,I,⟨_,rfl⟩,q⟩
  ·rw[J7]
   have e:(⟨(List.replicate n (tx r).cps).foldl (· ++ ·) #[]⟩:Str)=tx (List.replicate n r).flatten:=by
    have:=w9 r n [];rw[KN]at this;show Str.mk _=Str.mk _;rw[<- this]
   rw[e];have hz:(tx (List.replicate n r).flatten).length<=1000000:=by
    rw[ax,qV,Nat.mul_comm];rw[ax]at hl;exact hl
   exact⟨au hz,.str _,H,I.tok _,⟨_,rfl⟩,q⟩
end
theorem dU{H H':Hp}{l:Addr}{o:HO}(h:H l=none)(e:aD H l o=H'):aB H H'/\H' l=some o:=by subst e;exact⟨ak h,af⟩
section
variable {prog:K6}{w:K9}{A:K8}{E:KW}{s:K1}{d it:Addr}{od:Obj}{es:Array DictEntry}{ep i:Nat}
theorem C'{Q:KW}(ho:s.heap.get? d=some od)(hx:od.ExactDict)(hd:od.data=.dict es ep)(hm:(d==sysModules)=false)
  (q:Q (.ref s.heap.objs.size) {s with heap:=s.heap.push {cls:=.type "dict_keyiterator",data:=.fields #[.ref d,.int 0 0,.int es.size 0,.int ep 0]} }):wpAny (model prog w) A (pyIter (.ref d)) Q E s:=by
 have a:s.TypeIs (.ref d) "dict":=⟨od,ho,hx.1⟩;refine wpAny_pyIter_slot a PySem.F.slot_dict_iter (wpAny_call_entry PySem.F.slot_dict_iter a PySem.F.entry_dict_iter ?_ (PySem.F.args_dict_iter_1 _));unfold Builtin.«dict.__iter__» Builtin.Dict.dictSlotNone;refine q04 (q04 (wpAny_notOrdered_dict a (q05 ?_)));show wpAny _ _ (Builtin.Dict.showsAll d >>= _) _ _ s;have b:Builtin.Dict.showsAll d=pure ():=by unfold Builtin.Dict.showsAll;rw[hm];rfl
 rw[b];refine q04 (q05 (q04 (wpAny_dictEntries ho hd (q04 (wpAny_dictEpoch ho hd ?_)))));exact q04 (wpAny_newObj_type (q05 ⟨_,rfl,"dict_keyiterator",_,⟨_,J4 _ rfl,rfl⟩,PySem.F.slot_dict_keyiterator_next.lookup,by simpa[rawInt]using q⟩))
theorem Ci{e:DictEntry}{Q:Option Value->Shared->Prop}(hit:s.heap.IsKeyIter it d i es.size ep)(ho:s.heap.get? d=some od)(hd:od.data=.dict es ep)(hi:es[i]?=some e)
  (q:∀h',h'.IsKeyIter it d (i+1) es.size ep->Heap.SameBut it s.heap h'->Q (some e.key) {s with heap:=h' }):wpAny (model prog w) A (pyNext (.ref it)) Q E s:=by
 obtain⟨oi,c,j,a⟩:=id hit;have g:Builtin.Dict_items.ownsTuple "dict_keyiterator"=false:=by decide
 have k:¬ ((Value.ref d==Value.none)=true):=Kl;refine q04 (wpAny_attempt (wpAny_callSpecial?_slot (name:=Str.ofString "__next__") hit.typeIs PySem.F.slot_dict_keyiterator_next (wpAny_call_entry PySem.F.slot_dict_keyiterator_next hit.typeIs PySem.F.entry_dict_keyiterator_next ?_ (PySem.F.args_dict_keyiterator_next_1 _))));refine q04 (q05 (q04 (q04 (q04 (wpAny_typeNameOfWhole_keyiter hit.typeIs (q05 (q04 (wpAny_fieldsOf c a ?_))))))));simp only[g,q0a,if_false];show wpAny _ _ (if(Value.ref d==Value.none)=true then _ else _) _ _ s;rw[q06 k];refine q04 (q05 (q04 (wpAny_dictEntries ho hd ?_)));rw[q06 (by simp)];refine q04 (q05 (q04 (wpAny_dictEpoch ho hd ?_)));rw[q06 (by simp)];refine q05 ?_;have l:¬ ((i:Int)<0):=by omega
 simp only[l,if_false,J7,hi];refine q04 (q04 (wpAny_typeNameOfWhole_keyiter hit.typeIs (q05 (q04 (wpAny_isOneOf_keyiter hit.typeIs ?_)))));show wpAny _ _ (setField (.ref it) 1 (rawInt ((i:Int)+1)) >>= _) _ _ s;have b:(s.heap.update it (Obj.mapFields (·.setIfInBounds 1 (rawInt ((i:Int)+1))))).IsKeyIter it d (i+1) es.size ep:=⟨_,J8 _ c (Obj.isFreed_of_fields (Obj.data_mapFields a _)),(Obj.cls_mapFields ..).trans j,by rw[Obj.data_mapFields a];simp[rawInt]⟩;refine q04 (wpAny_setField c a (by simp) (q04 (q0Y (q04 (wpAny_isOneOf_keyiter (s:={s with heap:=s.heap.update it (Obj.mapFields (·.setIfInBounds 1 (rawInt ((i:Int)+1))))}) b.typeIs ?_)))));show wpAny _ _ (pure e.key) _ _ _;exact q05 (q05 ⟨_,rfl,q05 (q _ b (Heap.SameBut.update ..))⟩)
theorem Ey{Q:Option Value->Shared->Prop}(hh:A.handled=none)(hit:s.heap.IsKeyIter it d i es.size ep)(ho:s.heap.get? d=some od)(hd:od.data=.dict es ep)(hi:es.size<=i)
  (q:∀h',Heap.ExtBut it s.heap h'->Q none {s with heap:=h' }):wpAny (model prog w) A (pyNext (.ref it)) Q E s:=by
 obtain⟨oi,c,hci,e⟩:=id hit;have g:Builtin.Dict_items.ownsTuple "dict_keyiterator"=false:=by decide
 have j:¬ ((Value.ref d==Value.none)=true):=Kl;refine q04 (wpAny_attempt (wpAny_callSpecial?_slot (name:=Str.ofString "__next__") hit.typeIs PySem.F.slot_dict_keyiterator_next (wpAny_call_entry PySem.F.slot_dict_keyiterator_next hit.typeIs PySem.F.entry_dict_keyiterator_next ?_ (PySem.F.args_dict_keyiterator_next_1 _))));refine q04 (q05 (q04 (q04 (q04 (wpAny_typeNameOfWhole_keyiter hit.typeIs (q05 (q04 (wpAny_fieldsOf c e ?_))))))));simp only[g,q0a,if_false];show wpAny _ _ (if(Value.ref d==Value.none)=true then _ else _) _ _ s;rw[q06 j];refine q04 (q05 (q04 (wpAny_dictEntries ho hd ?_)));rw[q06 (by simp)];refine q04 (q05 (q04 (wpAny_dictEpoch ho hd ?_)));rw[q06 (by simp)];refine q05 ?_;have k:¬ ((i:Int)<0):=by omega
 simp only[k,if_false,J7,Array.getElem?_eq_none hi];refine q04 (q04 (wpAny_typeNameOfWhole_keyiter hit.typeIs (q05 ?_)));show wpAny _ _ (setField (.ref it) 0 .none >>= _) _ _ s;refine q04 (wpAny_setField c e (by simp) ?_);show wpAny _ _ (newExc (.type "StopIteration") [] >>= _) _ _ _;refine q04 ?_;simp only[newExc,newTuple];refine q04 (wpAny_newObj_type ?_ (by size_fits));refine q04 (m:=firstArgMember _ _) (wpAny_of_eq (a:=Value.none) (by first | rfl | (simp only[firstArgMember];rfl)) (wpAny_newObj_type ?_ (by size_fits)));simp only[raiseNew];refine q04 (wpAny_handled ?_);rw[show A.in1.handled=none from hh];refine q04 (q05 (wpAny_throw ?_));exact q04 (wpAny_isInstance (T:="StopIteration") (b:=true) ⟨_,J4 _ rfl,rfl⟩ isSubtype_stop (q05 (q _ (((Heap.SameBut.update ..).extBut.push _).push _))))
end
def wH(a:Addr)(od:Obj)(kvs:List (List cM×V)):It:=
 ⟨λi H=>H a=some (.frz od (.dT kvs))/\i<kvs.length,λi H x H'=>H'=H/\∃b kv,x=.ref b/\kvs[i]?=some kv/\H b=some (.tup (kv.1.map kV)),λi H=>H a=some (.frz od (.dT kvs))/\kvs.length<=i⟩
theorem Aj{α β:Type}{F:α->β->Prop}{l₁:List α}{l₂:List β}(h:Paired F l₁ l₂):∀{i:Nat} {x:α},l₁[i]?=some x->∃y,l₂[i]?=some y/\F x y:=by
 induction h with
 |nil=>intro i x e;simp at e
 |cons r t ih=>
  intro i x e;cases i with
  |zero=>rw[List.getElem?_cons_zero]at e;cases e;exact⟨_,rfl,r⟩
  |succ i=>exact ih e
theorem Bi{α β:Type}{F:α->β->Prop}{l₁:List α}{l₂:List β}(h:Paired F l₁ l₂):l₁.length=l₂.length:=by
 induction h with
 |nil=>rfl
 |cons r t ih=>exact q0R Nat.succ ih
theorem wq{P:K6}{w:K9}{H:Hp}{h:Heap}{a:Addr}{od:Obj}{kvs:List (List cM×V)}(ok:jf P w H h)(e:H a=some (.frz od (.dT kvs))):h.get? a=some od/\∃es ep,od.ExactDict/\od.data=.dict es ep/\es.size=kvs.length/\(a==sysModules)=false/\∀(i:Nat) kv,kvs[i]?=some kv->∃en b,es[i]?=some en/\en.key=.ref b/\H b=some (.tup (kv.1.map kV)):=by
 obtain⟨j,_,m,xs,d,o,es,ep,g,l,p,c,_⟩:=(show ce P w H h a (.frz od (.dT kvs)) from ok a _ e);rw[j]at g;cases g;refine⟨j,es,ep,l,p,?_,m,λi kv n=>?_⟩
 ·rw[<- Array.length_toList,c,JZ,Bi d]
 ·obtain⟨y,k,h1,h2,h3⟩:=Aj d n
  refine⟨entryOfKey (tupleKind (cj P w)) y,y.2.1,?_,rfl,h2⟩;rw[<- q0G,c,J1,k];rfl
theorem Dm{P:K6}{w:K9}{K:KY}{tg:Expr}(a it:Addr)(od:Obj)(kvs:List (List cM×V))(ep:Nat)(es:Array DictEntry)(hd:od.data=.dict es ep)(hn:es.size=kvs.length):rQ P w K tg (wH a od kvs) [it] it (λi h=>h.IsKeyIter it a i es.size ep) where
 mem:=by simp
 obj:=λi h g b l=>by
  have e:b=it:=by simpa using l
  subst e;obtain⟨o,e,c,d⟩:=g;exact⟨o,e,λv z=>by rw[d]at z;cases z⟩
 keep:=λi h p g k=>by
  obtain⟨o,e,c,d⟩:=g;exact⟨o,k it (by simp) o e,c,d⟩
 item:=by
  intro X u q x M i j s σ H E I hf g hg;subst u q x;obtain⟨J,G,f2,D,C,B⟩:=hf it (by simp);obtain⟨y,r⟩:=hg;obtain⟨L,es',ep',hx',n,hn',hs',R⟩:=wq I.hok y;rw[hd]at n;cases n;obtain⟨en,b,h1,h2,S⟩:=R i _ (JW r);refine Ci g L hd h1 λp m O=>?_;have U:Inv X j σ H {s with heap:=p }:=I.turned (t':=s.toks) (λb o l e=>(O.2 b l).trans e) J G D C B;obtain⟨o,e,c,d⟩:=id m;exact⟨_,rfl,uk (s:={s with heap:=p }) e c d (by decide) ⟨.ref b,H,U,h2.symm▸rfl,⟨rfl,b,_,rfl,JW r,S⟩,m,λb l=>(hf b l).1⟩⟩
 done:=by
  intro X u q x M i j s σ H E I hf g hg;subst u q x;obtain⟨J,G,f2,D,C,B⟩:=hf it (by simp);obtain⟨y,r⟩:=hg;obtain⟨L,_⟩:=wq I.hok y;exact Ey (I.ok.hd M) g L hd ⋯ λp T=>⟨rfl,I.turned (t':=s.toks) (λb o l e=>T b o l e) J G D C B⟩
 self:=λA i s Q E g h=>wpAny_pyIter_keyiter g h
section
variable {X:Cx}{pins:KZ}{σ:St}{H:Hp}{s:K1}
theorem Inv.freezeD(I:Inv X pins σ H s){a:Addr}{kvs:List (List cM×V)}(h:H a=some (.dT kvs)):∃o,Inv X pins σ (aD H a (.frz o (.dT kvs))) s:=by
 obtain⟨z,y,i,pr,o,es,ep,g,r⟩:=(show ce X.prog X.w H s.heap a (.dT kvs) from I.hok a _ h);refine⟨o,?_⟩;have d:∀b u,H b=some u->(∀ks,u≠.dT ks)->aD H a (.frz o (.dT kvs)) b=some u:=λb u e l=>by
  rw[ar (λq=>by rw[q,h]at e;cases e;exact l _ rfl)];exact e
 have hok:jf X.prog X.w (aD H a (.frz o (.dT kvs))) s.heap:=λb u e=>by
  have j:∀{u:HO},ce X.prog X.w H s.heap b u->ce X.prog X.w (aD H a (.frz o (.dT kvs))) s.heap b u:=λq=>q.stay (λc v _ q=>q) (λc q=>d c _ q (by intro ks z;cases z)) λc i q=>d c _ q (by intro ks z;cases z)
  by_cases k:b=a
  ·subst k
   rw[af]at e;cases e;exact⟨g,j (I.hok b _ h)⟩
  ·rw[ar k]at e
   exact j (I.hok b u e)
 have un:Un X.fs [] H (aD H a (.frz o (.dT kvs))) s.heap s.heap:=⟨λb o e _ _ _=>e,λb o e _ _ _=>⟨o.slots,e⟩,λb o' _ n _=>by rw[ar (λq=>by rw[q,h]at n;cases n)];exact n,λb o e _=>⟨o,e⟩,λb i e=>d b _ e (by intro ks z;cases z),λb o u e=>d b _ e (by intro ks z;cases z),λb ps e=>⟨#[],by rw[d b _ e (by intro ks z;cases z)];simp⟩⟩;exact I.un (h':=s.heap) (t':=s.toks) un hok
end
section
variable {X:Cx}{tg:Expr}
def GS(td:TE):TI:=λσ H R=>td σ H λx H1=>∃a kvs,x=.ref a/\((H1 a=some (.dT kvs)/\∀o,R (wH a o kvs) (aD H1 a (.frz o (.dT kvs))))\/∃o,H1 a=some (.frz o (.dT kvs))/\R (wH a o kvs) H1)
theorem AS{e:Expr}{td:TE}(he:PE X e td):PI X tg e (GS td):=by
 intro c s σ H R I h;refine cq (he c s σ H _ I h) λu j ⟨x,H1,l,m,a,d,y,q⟩=>?_;subst y;obtain rfl:u=Value.ref a:=m;obtain⟨o,H2,i,C,n⟩:∃o H2,Inv X c σ H2 j/\H2 a=some (.frz o (.dT d))/\R (wH a o d) H2:=by
  rcases q with⟨e,q⟩ | ⟨o,e,q⟩
  ·obtain⟨o,i⟩:=l.freezeD e
   exact⟨o,_,i,af,q o⟩
  ·exact⟨o,H1,l,e,q⟩
 obtain⟨g,z,B,p,k,v,r,_⟩:=wq i.hok C;refine C' g p k r ?_;refine⟨j.heap.objs.size,[j.heap.objs.size],_,_,H2,rfl,i.kept (t':=j.toks) λb o e=>JY _ e,Dm a _ o d B z k v,⟨_,J4 _ rfl,rfl,rfl⟩,λb w=>?_,n⟩;have e:b=j.heap.objs.size:=by simpa using w
 subst e;exact i.fpOk (Kj _) (i.hok.fresh (Kj _))
end
section
variable {g:TG}{tb:TS}{D:g_}{σ:St}{H:Hp}
theorem xK{a:Addr}{o:Obj}{kvs:List (List cM×V)}(Pv:Nat->St->Hp->Prop)(h0:Pv 0 σ H)(hl:∀i σ H,i<=kvs.length->Pv i σ H->H a=some (.frz o (.dT kvs)))
  (hs:∀(i:Nat) b kv σ H,kvs[i]?=some kv->H b=some (.tup (kv.1.map kV))->Pv i σ H->g (.ref b) σ H λσ2 H2=>tb {D with nx:=Pv (i+1),ct:=Pv (i+1),bk:=D.nx} σ2 H2) (hd:∀σ H,Pv kvs.length σ H->D.nx σ H):yh (wH a o kvs) g tb D σ H:=by
 refine⟨λi m σ H=>m=kvs.length-i/\i<=kvs.length/\Pv i σ H,⟨kvs.length,by simp,Kk _,h0⟩,?_⟩;rintro i m σ H ⟨rfl,j,p⟩;have q:=hl i σ H j p
 by_cases c:i<kvs.length
 ·refine .inr ⟨⟨q,c⟩,Pv (i+1),λσ2 H2 w2=>⟨kvs.length-(i+1),⋯,rfl,c,w2⟩,λx H2 y=>?_⟩
  obtain⟨rfl,b,kv,rfl,d,k⟩:=y;exact hs i b kv σ _ d k p
 ·have e:i=kvs.length:=by omega
  subst e;exact .inl ⟨⟨q,Kj _⟩,hd _ _ p⟩
end
section
variable {g:TG}{ti:TT}{te:TE}{σ:St}{H:Hp}{Q:List V->Hp->Prop}
theorem Bf{a:Addr}{o:Obj}{kvs:List (List cM×V)}{f:List cM×V->Option V}(S:St->Prop)(h0:S σ)(ha:H a=some (.frz o (.dT kvs)))(hn:kvs.length<sizeLine)
  (hs:∀(i:Nat) kv,kvs[i]?=some kv->∀b σ H' (N1:V->St->Hp->Prop) (N0:St->Hp->Prop),S σ->aB H H'->H' b=some (.tup (kv.1.map kV))->(∀v σ2 H2,f kv=some v->aB H H2->S σ2->N1 v σ2 H2)->(∀σ2 H2,f kv=none->aB H H2->S σ2->N0 σ2 H2) ->
   g (.ref b) σ H' λσ2 H3=>ti σ2 H3 λb H4=>if b=true then te σ2 H4 λv H5=>N1 v σ2 H5 else N0 σ2 H4)
  (he:∀H',aB H H'->Q (kvs.filterMap f) H'):eR (wH a o kvs) g ti te σ H Q:=by
 refine gR (J:=wH a o kvs) (n:=kvs.length) (λi c σ H'=>aB H H'/\c=(kvs.take i).filterMap f/\i<=kvs.length/\S σ) ⟨λ_ _ e=>e,rfl,Kk _,h0⟩ ?_ ?_ ?_ ?_ ?_ ?_
 ·rintro i c σ H' ⟨_,rfl,_⟩
  have:=sI (as:=kvs) (f:=f) i;omega
 ·rintro i c σ H' ⟨_,_,h,_⟩
  exact h
 ·rintro c σ H' ⟨j,_⟩
  exact⟨j _ _ ha,Kj _⟩
 ·rintro i c σ H' d ⟨j,_⟩
  exact⟨j _ _ ha,d⟩
 ·rintro i x c σ H' H2 d ⟨j,rfl,hi,m⟩ ⟨rfl,b,kv,rfl,k,l⟩
  refine hs i kv k b σ H2 (λv σ2 H5=>_) (λσ2 H4=>_) m j l (λv σ2 H2 hf s2 hS2=>⟨s2,?_,d,hS2⟩) (λσ2 H2 hf s2 hS2=>⟨s2,?_,d,hS2⟩)
  ·rw[fX k,hf];rfl
  ·rw[fX k,hf];simp
 ·rintro c σ H' ⟨j,rfl,_⟩
  have e:(kvs.take kvs.length).filterMap f=kvs.filterMap f:=by rw[Kz]
  rw[e];exact he _ j
end
section
variable {X:Cx}
def GE(K:KY):R2:=λx y H Q=>∃(a b:Addr) (ss ts:K7),x=.ref a/\y=.ref b/\aN K H a (ss.map V.str)/\aN K H b (ts.map V.str)/\Q (.bl (decide (ss=ts))) H
theorem CD{ss ts:K7}(h:ss.length=ts.length):(List.range ss.length).all (λj=>decide (ss[j]?=ts[j]?))=decide (ss=ts):=by
 by_cases e:ss=ts
 ·subst e
  rw[q09 rfl,KJ];intro j _;exact q09 rfl
 ·rw[q08 e]
  cases b:(List.range ss.length).all (λj=>decide (ss[j]?=ts[j]?)) with
  |false=>rfl
  |true=>
   refine q0Q (List.ext_getElem? λj=>?_) e
   by_cases a:j<ss.length
   ·exact of_decide_eq_true (KJ.mp b j (List.mem_range.mpr a))
   ·rw[List.getElem?_eq_none ⋯,List.getElem?_eq_none ⋯]
theorem EC(hu:X.A.units+64<cLine):bj X (compareOp .Eq) (GE X.K):=by
 intro pins s σ H x y v u Q I rx ry h;obtain⟨a,b,c,d,rfl,rfl,S,R,q⟩:=h;cases rx;cases ry
 obtain⟨k,z,D,_⟩:=I.list S;obtain⟨g,w,C,_⟩:=I.list R;have M:=z.length;have L:=w.length
 rw[JZ]at M L
 by_cases G:c.length=d.length
 ·have B:=SeqAt.RcAt.lists (A:=X.A) (s:=s) (e:=λj=>decide (c[j]?=d[j]?)) D.isList C.isList (by simp;omega) ⋯ (λj U T=>by
   have o:j<k.length:=by simpa using U
   have n:j<g.length:=by simpa using T
   have r:c[j]?=some (c[j]'⋯):=JW _;have p:d[j]?=some (d[j]'⋯):=JW _;obtain⟨w1,J,m⟩:=z.get (i:=j) (x:=.str (c[j]'⋯)) (by rw[J1,r];rfl);obtain⟨w2,f2,l⟩:=w.get (i:=j) (x:=.str (d[j]'⋯)) (by rw[J1,p];rfl);rw[JW o]at J;rw[JW n]at f2;cases J;cases f2
   simp only[KM,r,p];have:=fH (A:=X.A.in1) (s:=s) m l rfl rfl;have Y:∀a b:Str,uf (.str a) (.str b)=decide (some a=some b):=λa b=>by
    show(a==b)=_
    by_cases e:a=b
    ·subst e;simp
    ·rw[q08 (λh=>e (q0S h))];exact beq_eq_false_iff_ne.mpr e
   rw[Y]at this;exact this)
  have O:k.toArray.size=c.length:=by simp;omega
  rw[O,CD G]at B;exact B _ _ _ _ ⟨.bl _,H,I,rfl,q⟩
 ·rw[q08 (λe=>G (by rw[e]))]at q
  exact SeqAt.RcAt.lists_lengths D.isList C.isList (by simp;omega) ⋯ _ _ _ _ ⟨.bl false,H,I,rfl,q⟩
end
end L2
namespace aO
def oz(sb:Bool)(p q:aO):aO:=if sb=true then(p.zip q).map λx=>x.1++x.2 else p++q
theorem uL{p q:aO}{r c c':Nat}(hp:rect p r c)(hq:rect q r c'):rect (oz true p q) r (c+c'):=by
 unfold oz;rw[q07 rfl];refine⟨by rw[JZ,q0N,hp.1,hq.1,Nat.min_self],λx b=>?_⟩;obtain⟨⟨u,v⟩,a,rfl⟩:=KI.mp b;have:=List.of_mem_zip a;rw[Ki,hp.2 u this.1,hq.2 v this.2]
theorem wQ{p q:aO}{r r' c:Nat}(hp:rect p r c)(hq:rect q r' c):rect (oz false p q) (r+r') c:=by
 unfold oz;rw[q06 (by decide)];refine⟨by rw[Ki,hp.1,hq.1],λx a=>?_⟩;rcases J'.mp a with h | h
 ·exact hp.2 x h
 ·exact hq.2 x h
end aO
namespace TS
open PySem PyProof.Rows
section
variable {M:Model}{A:K8}{E:KW}{J:Shared->Prop}{σ:Type}
def fm(M:Model)(A:K8)(E:KW)(J:Shared->Prop){α:Type}(m:StateT σ Sem α)(Q:α->σ->Prop)(st:σ):Prop:=
 ∀s,J s->wpAny M A (m.run st) (λr s'=>J s'/\Q r.1 r.2) E s
theorem aC{α:Type}{a:α}{Q:α->σ->Prop}{st:σ}(h:Q a st):fm M A E J (pure a:StateT σ Sem α) Q st:=by
 intro s j;rw[StateT.run_pure];exact q05 ⟨j,h⟩
theorem az{α β:Type}{m:StateT σ Sem α}{f:α->StateT σ Sem β}{Q:β->σ->Prop}{st:σ}
  (h:fm M A E J m (λa st'=>fm M A E J (f a) Q st') st):fm M A E J (m >>= f) Q st:=by
 intro s j;rw[StateT.run_bind]
 exact q04 (q0X (h s j) (λr c b=>b.2 c b.1) λ_ _ e=>e)
theorem bV{α:Type}{m:StateT σ Sem α}{Q Q':α->σ->Prop}{st:σ}(h:fm M A E J m Q st)(hq:∀a st',Q a st'->Q' a st'):fm M A E J m Q' st:=
 λs j=>q0X (h s j) (λr _ h'=>⟨h'.1,hq _ _ h'.2⟩) λ_ _ e=>e
theorem gD{Q:σ->σ->Prop}{st:σ}(h:Q st st):fm M A E J (get:StateT σ Sem σ) Q st:=by
 intro s j;rw[StateT.run_get];exact q05 ⟨j,h⟩
theorem c5{f:σ->σ}{Q:PUnit->σ->Prop}{st:σ}(h:Q ⟨⟩ (f st)):fm M A E J (modify f:StateT σ Sem PUnit) Q st:=by
 intro s j;rw[StateT.run_modify];exact q05 ⟨j,h⟩
theorem Fg{x:σ}{Q:PUnit->σ->Prop}{st:σ}(h:Q ⟨⟩ x):fm M A E J (set x:StateT σ Sem PUnit) Q st:=by
 intro s j;rw[StateT.run_set];exact q05 ⟨j,h⟩
theorem jR{α:Type}{m:Sem α}{Q:α->σ->Prop}{st:σ}(h:∀s,J s->wpAny M A m (λa s'=>J s'/\Q a st) E s) :
  fm M A E J (liftM m:StateT σ Sem α) Q st:=by
 intro s j;show wpAny M A ((StateT.lift m:StateT σ Sem α).run st) _ E s;rw[StateT.run_lift];exact q04 (q0X (h s j) (λa s' b=>q05 b) λ_ _ e=>e)
theorem zG{β:Type}(f:Nat->β->StateT σ Sem (ForInStep β))(I:List Nat->β->σ->Prop)(Q:β->σ->Prop)
  (hs:∀x bY b st,I (x::bY) b st->fm M A E J (f x b) (λr st'=>match r with | .done b'=>Q b' st' | .yield b'=>I bY b' st') st)
  (he:∀b st,I [] b st->Q b st):∀(l:K0) (b:β) (st:σ),I l b st->fm M A E J (forIn l b f) Q st
 | [],b,st,h=>by rw[List.forIn_nil];exact aC (he _ _ h)
 |x::bY,b,st,h=>by
  rw[List.forIn_cons];refine az (bV (hs x bY b st h) λr st' h'=>?_);cases r with
  |done b'=>exact aC h'
  |yield b'=>exact zG f I Q hs he bY b' st' h'
theorem eD{β:Type}{a b:Nat}{f:Nat->β->StateT σ Sem (ForInStep β)}(I:Nat->β->σ->Prop){Q:β->σ->Prop}
  (hs:∀i c st,a<=i->i<b->I i c st->fm M A E J (f i c) (λr st'=>match r with | .done c'=>Q c' st' | .yield c'=>I (i+1) c' st') st)
  (he:∀c st,I (max a b) c st->Q c st) {c:β} {st:σ} (h:I a c st):fm M A E J (forIn [a:b] c f) Q st:=by
 rw[Std.Legacy.Range.forIn_eq_forIn_range'];have o:([a:b]:Std.Legacy.Range).size=b-a:=by simp[Std.Legacy.Range.size]
 show fm M A E J (forIn (List.range' a ([a:b]:Std.Legacy.Range).size 1) c f) Q st;rw[o];refine zG f (λl c st=>∃n,l.length=n/\∃i,a<=i/\l=List.range' i n 1/\i+n=max a b/\I i c st) Q ?_ ?_ _ c st ⟨b-a,by simp,a,Kj _,rfl,⋯,h⟩
 ·rintro x bY c st ⟨n,e,i,d,g,j,k⟩
  cases n with
  |zero=>simp at e
  |succ n=>
   rw[List.range'_succ]at g;obtain⟨rfl,rfl⟩:=List.cons.inj g;refine bV (hs x c st d ⋯ k) λr st' m=>?_;cases r with
   |done c'=>exact m
   |yield c'=>exact⟨n,by simp,x+1,⋯,rfl,⋯,m⟩
 ·rintro c st ⟨n,e,i,d,g,j,k⟩
  simp at e;subst e
  have:i=max a b:=by omega
  subst this;exact he _ _ k
end
section
variable {prog:K6}{w:K9}{A:K8}{E:KW}{J:Shared->Prop}{a₀:Array Keyed}{kd:SortKind}{r:Keyed->Nat}
def Cmp(prog:K6)(w:K9)(A:K8)(J:Shared->Prop)(a₀:Array Keyed)(kd:SortKind)(r:Keyed->Nat):Prop:=
 ∀x,x∈a₀.toList->∀y,y∈a₀.toList->∀s,J s->wpAny (model prog w) A (keyLt' kd x.1 y.1) (λb s'=>J s'/\b=decide (r x<r y)) (λ_ _=>False) s
theorem Bx(C:Cmp prog w A J a₀ kd r){x y:Keyed}(hx:x∈a₀.toList)(hy:y∈a₀.toList){st:SortSt}(hk:kindOf st=kd){Q:Option Bool->SortSt->Prop}
  (h:Q (some (decide (r x<r y))) st):fm (model prog w) A E J (lt' x y) Q st:=by
 rw[lt'_eq];refine az (gD ?_);rw[hk];refine az (jR λs j=>wpAny_attempt (q0X (C x hx y hy s j) (λb s' c=>?_) λ_ _ e=>?_))
 ·obtain⟨a,rfl⟩:=c;exact⟨a,aC h⟩
 ·exact e.elim
theorem cD{arr:Array Keyed}{i:Nat}{p:Keyed}(hp:arr[i]?=some p){st:SortSt}{Q:Keyed->SortSt->Prop}(h:Q p st):fm (model prog w) A E J (elem' arr i) Q st:=by
 rw[elem'_eq,hp];exact aC h
def ib:Bool->Keyed->Array Keyed->Nat->Nat->Nat->StateT SortSt Sem (Option Nat):=sortPriv% PySem.Builtin.gallop
theorem uh{n lo hi:Nat}{st:SortSt}{Q:Option Nat->SortSt->Prop}{B:Nat->Bool}{bey:Nat->StateT SortSt Sem (Option Bool)}
  (be:∀i,i<n->∀{Q':Option Bool->SortSt->Prop},Q' (some (B i)) st->fm (model prog w) A E J (bey i) Q' st)
  (hm:∀i j,i<=j->j<n->B j=true->B i=true) (hl:lo<=hi) (hh:hi<=n) (fl:∀i,i<lo->B i=true) (fh:∀i,hi<=i->i<n->B i=false)
  (h:∀k,k<=n->(∀i,i<k->B i=true)->(∀i,k<=i->i<n->B i=false)->Q (some k) st)
  {F:Nat->Option (Option Nat)×Nat×Nat->StateT SortSt Sem (ForInStep (Option (Option Nat)×Nat×Nat))}
  (hF:∀x l u,F x (none,l,u)=if l≥u then pure (ForInStep.done (none,l,u)) else bey (l+(u-l)/2) >>= λo=>match o with
   |some t=>if t=true then pure (ForInStep.yield (none,l+(u-l)/2+1,u)) else pure (ForInStep.yield (none,l,l+(u-l)/2))
   |none=>pure (ForInStep.done (some none,l,u)))
  {G:Option (Option Nat)×Nat×Nat->StateT SortSt Sem (Option Nat)} (hG:∀l u,G (none,l,u)=pure (some u)) :
  fm (model prog w) A E J (forIn [0:n] (none,lo,hi) F >>= G) Q st:=by
 refine az (bV (eD (I:=λx c a=>a=st/\∃l u,c=(none,l,u)/\l<=u/\u<=n/\u-l<=n-x/\(∀i,i<l->B i=true)/\(∀i,u<=i->i<n->B i=false))
  (Q:=λc a=>a=st/\∃l u,c=(none,l,u)/\u<=n/\(∀i,i<u->B i=true)/\(∀i,u<=i->i<n->B i=false)) ?s ?e ⟨rfl,lo,hi,rfl,hl,hh,⋯,fl,fh⟩) ?p)
 case e=>
  rintro c a ⟨rfl,l,u,rfl,h1,h2,z,d,b⟩;exact⟨rfl,l,u,rfl,h2,λi g=>d i ⋯,b⟩
 case s=>
  rintro x c a _ hxn ⟨rfl,l,u,rfl,h1,h2,z,d,b⟩;rw[hF]
  by_cases m:l≥u
  ·rw[q07 m];exact aC ⟨rfl,l,u,rfl,h2,λi g=>d i ⋯,b⟩
  ·rw[q06 m]
   refine az (be (l+(u-l)/2) ⋯ ?_);dsimp only
   by_cases q:B (l+(u-l)/2)=true
   ·rw[q07 q];exact aC ⟨rfl,_,u,rfl,⋯,h2,⋯,λi g=>hm i _ ⋯ ⋯ q,b⟩
   ·rw[q06 q]
    refine aC ⟨rfl,l,_,rfl,⋯,⋯,⋯,d,λi v r=>?_⟩;cases y:B i with
    |false=>rfl
    |true=>exact q0Q (hm _ i v r y) q
 case p=>
  rintro c a ⟨rfl,l,u,rfl,h2,d,b⟩;rw[hG];exact aC (h u h2 d b)
theorem Am{left:Bool}{key:Keyed}{arr:Array Keyed}{base n hint:Nat}{st:SortSt}{Q:Option Nat->SortSt->Prop}{B:Nat->Bool}(C:Cmp prog w A J a₀ kd r)(hk:kindOf st=kd)
  (hkey:key∈a₀.toList) (hi:hint<n) (hx:∀i,i<n->∃x,arr[base+i]?=some x/\x∈a₀.toList/\B i=if left then decide (r x<r key) else !decide (r key<r x))
  (hm:∀i j,i<=j->j<n->B j=true->B i=true)
  (h:∀k,k<=n->(∀i,i<k->B i=true)->(∀i,k<=i->i<n->B i=false)->Q (some k) st) :
  fm (model prog w) A E J (ib left key arr base n hint) Q st:=by
 have G:∀i,i<n->∀{L:Option Bool->SortSt->Prop},L (some (B i)) st->fm (model prog w) A E J (do
   let x <- elem' arr (base+i)
   if left=true then lt' x key else do
    let y <- lt' key x
    pure (y.map (!·))) L st:=by
  intro i hi L q;obtain⟨x,e,m,b⟩:=hx i hi;refine az (cD e ?_);cases left with
  |true=>rw[q07 rfl]at b ⊢;exact Bx C m hkey hk (by rw[<- b];exact q)
  |false=>
   rw[q06 (by decide)]at b ⊢;exact az (Bx C hkey m hk (aC (by show L (some (!decide _)) st;rw[<- b];exact q)))
 unfold ib;refine az (G hint hi ?_);dsimp only
 by_cases S:B hint=true
 ·rw[q07 S]
  refine az (bV (eD (I:=λx c a=>a=st/\∃l o,c=(none,l,o)/\l<o/\x+1<=o/\hint+l<n/\B (hint+l)=true)
   (Q:=λc a=>a=st/\∃l o,c=(none,l,o)/\l<o/\hint+l<n/\B (hint+l)=true/\(n-hint<=o\/B (hint+o)=false)) ?s1 ?e1 ⟨rfl,0,1,rfl,⋯,⋯,⋯,S⟩) ?p1)
  case e1=>
   rintro c a ⟨rfl,l,o,rfl,h1,h2,p,g⟩;exact⟨rfl,l,o,rfl,h1,p,g,.inl ⋯⟩
  case s1=>
   rintro x c a _ O ⟨rfl,l,o,rfl,h1,h2,p,g⟩;dsimp only
   by_cases d:o≥n-hint
   ·rw[q07 d];exact aC ⟨rfl,l,o,rfl,h1,p,g,.inl d⟩
   ·rw[q06 d]
    refine az (G (hint+o) ⋯ ?_);dsimp only
    by_cases D:B (hint+o)=true
    ·rw[D,q06 (by decide)];exact aC ⟨rfl,o,2*o+1,rfl,⋯,⋯,⋯,D⟩
    ·have v:B (hint+o)=false:=by cases z:B (hint+o)<;>simp_all
     rw[v,q07 (by decide)];exact aC ⟨rfl,l,o,rfl,h1,p,g,.inr v⟩
  case p1=>
   rintro c a ⟨rfl,l,o,rfl,h1,p,g,h5⟩;dsimp only;have T:∀i,i<hint+l+1->B i=true:=λi hi'=>hm i (hint+l) ⋯ p g;have U:∀i,hint+min o (n-hint)<=i->i<n->B i=false:=by
    intro i Y M;rcases h5 with h5 | h5
    ·omega
    ·cases z:B i with
     |false=>rfl
     |true=>exact q0Q (hm (hint+o) i ⋯ M z) (by rw[h5];decide)
   exact uh G hm ⋯ ⋯ T U h (λx l u=>ite_congr rfl (λ_=>rfl) λ_=>q0R _ (funext λo=>by cases o<;>rfl)) (λl u=>rfl)
 ·have R:B hint=false:=by cases z:B hint<;>simp_all
  rw[q06 S];refine az (bV (eD (I:=λx c a=>a=st/\∃l o,c=(none,l,o)/\l<o/\x+1<=o/\l<=hint/\B (hint-l)=false)
   (Q:=λc a=>a=st/\∃l o,c=(none,l,o)/\l<o/\l<=hint/\B (hint-l)=false/\(hint+1<=o\/(o<=hint/\B (hint-o)=true))) ?s2 ?e2 ⟨rfl,0,1,rfl,⋯,⋯,⋯,R⟩) ?p2)
  case e2=>
   rintro c a ⟨rfl,l,o,rfl,h1,h2,p,g⟩;exact⟨rfl,l,o,rfl,h1,p,g,.inl ⋯⟩
  case s2=>
   rintro x c a _ O ⟨rfl,l,o,rfl,h1,h2,p,g⟩;dsimp only
   by_cases d:o≥hint+1
   ·rw[q07 d];exact aC ⟨rfl,l,o,rfl,h1,p,g,.inl d⟩
   ·rw[q06 d]
    refine az (G (hint-o) ⋯ ?_);dsimp only
    by_cases D:B (hint-o)=true
    ·rw[q07 D];exact aC ⟨rfl,l,o,rfl,h1,p,g,.inr ⟨⋯,D⟩⟩
    ·have v:B (hint-o)=false:=by cases z:B (hint-o)<;>simp_all
     rw[q06 D];exact aC ⟨rfl,o,2*o+1,rfl,⋯,⋯,⋯,v⟩
  case p2=>
   rintro c a ⟨rfl,l,o,rfl,h1,p,g,h5⟩;dsimp only;have T:∀i,i<hint+1-min o (hint+1)->B i=true:=by
    intro i Y;rcases h5 with h5 | ⟨h5,Z⟩
    ·omega
    ·exact hm i (hint-o) ⋯ ⋯ Z
   have U:∀i,hint-l<=i->i<n->B i=false:=by
    intro i Y M;cases z:B i with
    |false=>rfl
    |true=>exact q0Q (hm (hint-l) i ⋯ M z) (by rw[g];decide)
   exact uh G hm ⋯ ⋯ T U h (λx l u=>ite_congr rfl (λ_=>rfl) λ_=>q0R _ (funext λo=>by cases o<;>rfl)) (λl u=>rfl)
end
structure MI{α:Type}(le:α->α->Prop)(X Y out rx ry:List α):Prop where
 ex:∃px py,X=px++rx/\Y=py++ry/\out.Perm (px++py)
 so:out.Pairwise le
 ah:∀p,p∈out->∀q,q∈rx++ry->le p q
namespace MI
variable {α:Type}{le:α->α->Prop}{X Y out rx ry:List α}
theorem start(X Y:List α):MI le X Y [] X Y:=⟨⟨[],[],rfl,rfl,List.Perm.refl _⟩,.nil,λp h=>nomatch h⟩
theorem swap(h:MI le X Y out rx ry):MI le Y X out ry rx:=by
 obtain⟨⟨d,c,j,i,g⟩,s,a⟩:=h;exact⟨⟨c,d,i,j,g.trans List.perm_append_comm⟩,s,λp e q b=>a p e q (by rw[J']at b ⊢;exact b.symm)⟩
theorem takeX{c rx':List α}(h:MI le X Y out (c++rx') ry)(sX:X.Pairwise le)(hc:∀p,p∈c->∀q,q∈ry->le p q):MI le X Y (out++c) rx' ry:=by
 obtain⟨⟨d,i,e,k,j⟩,s,a⟩:=h;rw[e]at sX;have g:=(List.pairwise_append.mp sX).2.1;have b:=List.pairwise_append.mp g;refine⟨⟨d++c,i,by rw[e,Kw],k,?_⟩,List.pairwise_append.mpr ⟨s,b.1,λp hp q hq=>a p hp q (by simp[hq])⟩,λp hp q hq=>?_⟩
 ·refine(j.append_right c).trans ?_
  rw[Kw,Kw];exact List.perm_append_comm.append_left d
 ·rcases J'.mp hp with hp | hp
  ·exact a p hp q (by rcases J'.mp hq with hq | hq<;>simp[hq])
  ·rcases J'.mp hq with hq | hq
   ·exact b.2.2 p hp q hq
   ·exact hc p hp q hq
theorem takeY{c ry':List α}(h:MI le X Y out rx (c++ry'))(sY:Y.Pairwise le)(hc:∀p,p∈c->∀q,q∈rx->le p q):MI le X Y (out++c) rx ry':=
 (h.swap.takeX sY hc).swap
theorem oneX{x:α}{rx':List α}(h:MI le X Y out (x::rx') ry)(sX:X.Pairwise le)(hc:∀q,q∈ry->le x q):MI le X Y (out++[x]) rx' ry:=
 takeX (c:=[x]) h sX λp hp q hq=>by rw[J0]at hp;subst hp;exact hc q hq
theorem oneY{y:α}{ry':List α}(h:MI le X Y out rx (y::ry'))(sY:Y.Pairwise le)(hc:∀q,q∈rx->le y q):MI le X Y (out++[y]) rx ry':=
 takeY (c:=[y]) h sY λp hp q hq=>by rw[J0]at hp;subst hp;exact hc q hq
theorem len(h:MI le X Y out rx ry):out.length+rx.length+ry.length=X.length+Y.length:=by
 obtain⟨⟨px,py,c,b,a⟩,_,_⟩:=h;have:=a.length_eq;rw[c,b];simp at this ⊢;omega
theorem fin{l:List α}(h:MI le X Y out rx ry)(hp:l.Perm (rx++ry))(hs:l.Pairwise le):(out++l).Pairwise le/\(out++l).Perm (X++Y):=by
 obtain⟨⟨b,py,e,d,c⟩,s,a⟩:=h;refine⟨List.pairwise_append.mpr ⟨s,hs,λp h1 q h2=>a p h1 q (hp.mem_iff.mp h2)⟩,?_⟩;rw[e,d];refine(c.append hp).trans ?_;rw[Kw,Kw];refine List.Perm.append_left b ?_;rw[<- Kw,<- Kw];exact List.perm_append_comm.append_right ry
theorem finX(h:MI le X Y out rx [])(sX:X.Pairwise le):(out++rx).Pairwise le/\(out++rx).Perm (X++Y):=by
 obtain⟨px,py,a,_,_⟩:=h.ex;exact h.fin (by rw[Kv]) (by rw[a]at sX;exact(List.pairwise_append.mp sX).2.1)
theorem finY(h:MI le X Y out [] ry)(sY:Y.Pairwise le):(out++ry).Pairwise le/\(out++ry).Perm (X++Y):=by
 obtain⟨px,py,_,a,_⟩:=h.ex;exact h.fin (by rw[KN]) (by rw[a]at sY;exact(List.pairwise_append.mp sY).2.1)
theorem lastX{x:α}(h:MI le X Y out [x] ry)(sY:Y.Pairwise le)(hx:∀q,q∈ry->le q x):(out++(ry++[x])).Pairwise le/\(out++(ry++[x])).Perm (X++Y):=by
 obtain⟨px,py,_,c,_⟩:=h.ex;refine h.fin List.perm_append_comm ?_;rw[c]at sY;exact List.pairwise_append.mpr ⟨(List.pairwise_append.mp sY).2.1,List.pairwise_singleton _ _,λp b q a=>by rw[J0]at a;subst a;exact hx p b⟩
end MI
theorem wZ{α:Type}(a:Array α)(i:Nat):(a.extract i a.size).toList=a.toList.drop i:=by
 rw[Array.toList_extract];simp[List.extract];exact q0F (by simp)
theorem mW{α:Type}(a:Array α)(i k:Nat):(a.extract i (i+k)).toList=(a.toList.drop i).take k:=by
 rw[Array.toList_extract];simp[List.extract]
theorem gi{α:Type}(a:Array α){i:Nat}(h:i<a.toList.length):∃x,a[i]?=some x/\a.toList.drop i=x::a.toList.drop (i+1)/\x∈a.toList:=by
 refine⟨a.toList[i],?_,q0T h,J6 h⟩;rw[<- q0G,JW h]
def SG(st st':SortSt):Prop:=kindOf st'=kindOf st/\arrOf st'=arrOf st/\pendingOf st'=pendingOf st/\failedOf st'=failedOf st
theorem SG.refl(st:SortSt):SG st st:=⟨rfl,rfl,rfl,rfl⟩
abbrev PA:=Array Keyed
abbrev SM:=StateT SortSt Sem
abbrev gP(r:Keyed->Nat):Keyed->Keyed->Prop:=λp q=>r p<=r q
def uQ:PA->PA->SM PA:=sortPriv% PySem.Builtin.mergeLo
def lH:Nat->SM Unit:=sortPriv% PySem.Builtin.setMinGallop
abbrev L1:=Option PA×PA×Nat×Nat×Nat×Nat
abbrev F':=Option PA×PA×Nat×Nat×Nat×Nat×Nat
abbrev L0:=Option PA×PA×Nat×Nat×Nat
abbrev Bp(a b:PA)(o:PA)(i j:Nat):PA:=o++a.extract i a.size++b.extract j b.size
abbrev D5(a b:PA)(o:PA)(i j:Nat):PA:=o++b.extract j b.size++a.extract i a.size
def Gn(a b:PA)(g:Nat)(o:PA)(i j m n:Nat):SM (ForInStep L1):=
 elem' b j >>= λy=>elem' a i >>= λx=>lt' y x >>= λt=>match t with
 |some t=>if t=true then elem' b j >>= λy=>
   if(j+1==b.size)=true then pure (.done (some (Bp a b (o.push y) i (j+1)),o.push y,i,j+1,0,n+1))
   else if n+1≥g then pure (.done (none,o.push y,i,j+1,0,n+1)) else pure (.yield (none,o.push y,i,j+1,0,n+1))
  else elem' a i >>= λx=>
   if(i+1+1==a.size)=true then pure (.done (some (D5 a b (o.push x) (i+1) j),o.push x,i+1,j,m+1,0))
   else if m+1≥g then pure (.done (none,o.push x,i+1,j,m+1,0)) else pure (.yield (none,o.push x,i+1,j,m+1,0))
 |_=>pure (.done (some (Bp a b o i j),o,i,j,m,n))
def F8(a b:PA)(o:PA)(i j g m n:Nat):SM (ForInStep F'):=
 elem' a i >>= λx=>if(i+1+1==a.size)=true then pure (.done (some (D5 a b (o.push x) (i+1) j),o.push x,i+1,j,g,m,n))
  else if(decide (m<7)&&decide (n<7))=true then pure (.done (none,o.push x,i+1,j,g,m,n)) else pure (.yield (none,o.push x,i+1,j,g,m,n))
def F3(a b:PA)(o:PA)(i j g m n:Nat):SM (ForInStep F'):=
 elem' b j >>= λy=>if(j+1==b.size)=true then pure (.done (some (Bp a b (o.push y) i (j+1)),o.push y,i,j+1,g,m,n))
  else elem' a i >>= λx=>ib true x b (j+1) (b.size-(j+1)) 0 >>= λt=>match t with
  |some k=>if k>0 then
    if(j+1+k==b.size)=true then pure (.done (some (Bp a b (o.push y++b.extract (j+1) (j+1+k)) i (j+1+k)),o.push y++b.extract (j+1) (j+1+k),i,j+1+k,g,m,k))
    else F8 a b (o.push y++b.extract (j+1) (j+1+k)) i (j+1+k) g m k
   else F8 a b (o.push y) i (j+1) g m k
  |_=>pure (.done (some (Bp a b (o.push y) i (j+1)),o.push y,i,j+1,g,m,n))
def FO(a b:PA)(o:PA)(i j g m n:Nat):SM (ForInStep F'):=
 lH g >>= λ_=>elem' b j >>= λy=>ib false y a i (a.size-i) 0 >>= λt=>match t with
  |some k=>if k>0 then
    if(i+k+1==a.size)=true then pure (.done (some (D5 a b (o++a.extract i (i+k)) (i+k) j),o++a.extract i (i+k),i+k,j,g,k,n))
    else if(i+k==a.size)=true then pure (.done (some (Bp a b (o++a.extract i (i+k)) (i+k) j),o++a.extract i (i+k),i+k,j,g,k,n))
    else F3 a b (o++a.extract i (i+k)) (i+k) j g k n
   else F3 a b o i j g k n
  |_=>pure (.done (some (Bp a b o i j),o,i,j,g,m,n))
def GR(a b:PA)(s:L0):SM (ForInStep L0):=
 forIn [0:a.size+b.size] ((none,s.2.1,s.2.2.1,s.2.2.2.1,0,0):L1) (λ_ t=>Gn a b s.2.2.2.2 t.2.1 t.2.2.1 t.2.2.2.1 t.2.2.2.2.1 t.2.2.2.2.2) >>= λt=>
 match t.1 with
 |some z=>pure (.done (some z,t.2.1,t.2.2.1,t.2.2.2.1,s.2.2.2.2))
 |none=>liftM (rule "list.sort.gallop") >>= λ_=>
  forIn [0:a.size+b.size] ((none,t.2.1,t.2.2.1,t.2.2.2.1,s.2.2.2.2+1,t.2.2.2.2.1,t.2.2.2.2.2):F') (λ_ u=>
   if u.2.2.2.2.1>1 then FO a b u.2.1 u.2.2.1 u.2.2.2.1 (u.2.2.2.2.1-1) u.2.2.2.2.2.1 u.2.2.2.2.2.2 else FO a b u.2.1 u.2.2.1 u.2.2.2.1 u.2.2.2.2.1 u.2.2.2.2.2.1 u.2.2.2.2.2.2) >>= λu=>
  match u.1 with
  |some z=>pure (.done (some z,u.2.1,u.2.2.1,u.2.2.2.1,u.2.2.2.2.1))
  |none=>lH (u.2.2.2.2.1+1) >>= λ_=>pure (.yield (none,u.2.1,u.2.2.1,u.2.2.2.1,u.2.2.2.2.1+1))
def DI(a b:PA):SM PA:=
 liftM (rule "list.sort.merge-lo") >>= λ_=>elem' b 0 >>= λy=>
 if((1:Nat)==b.size)=true then pure (Bp a b #[y] 0 1) else if((0:Nat)+1==a.size)=true then pure (D5 a b #[y] 0 1) else
 get >>= λst=>forIn [0:a.size+b.size] ((none,#[y],0,1,gallopOf st):L0) (λ_ s=>GR a b s) >>= λs=>
 match s.1 with
 |some z=>pure z
 |none=>liftM (unsupported "internal:list.sort.merge-bound":Sem PA)
theorem aR{α β:Type}{m m':SM α}{f g:α->SM β}(e:m=m')(h:∀x,f x=g x):(m >>= f)=(m' >>= g):=by rw[e,funext h]
theorem gK{β:Type}{n:Nat}{c:β}{f g:Nat->β->SM (ForInStep β)}(h:∀x s,f x s=g x s):(forIn [0:n] c f:SM β)=forIn [0:n] c g:=by
 rw[show f=g from funext λx=>funext λs=>h x s]
theorem dJ{α:Type}{c:Prop}[Decidable c]{a b a' b':α}(h:a=a')(k:b=b'):(if c then a else b)=if c then a' else b':=by rw[h,k]
theorem wL(a b:PA):uQ a b=DI a b:=by
 refine aR rfl λ_=>aR rfl λy=>dJ rfl (dJ rfl (aR rfl λst=>aR (gK λ_ s=>?_) λs=>?_))
 ·refine aR (gK λ_ t=>?_) λt=>?_
  ·refine aR rfl λy=>aR rfl λx=>aR rfl λt=>?_
   rfl
  ·obtain⟨z,t⟩:=t
   cases z with
   |some z=>rfl
   |none=>
    refine aR rfl λ_=>aR (gK λ_ u=>dJ ?_ ?_) λu=>?_
    ·rfl
    ·rfl
    ·obtain⟨z,u⟩:=u
     cases z<;>rfl
 ·obtain⟨z,s⟩:=s
  cases z<;>rfl
section
variable {prog:K6}{w:K9}{A:K8}{E:KW}{J:Shared->Prop}{a₀:Array Keyed}{kd:SortKind}{r:Keyed->Nat}
def bt(r:Keyed->Nat)(left:Bool)(key p:Keyed):Prop:=if left=true then r p<r key else r p<=r key
noncomputable instance (left:Bool)(key p:Keyed):Decidable (bt r left key p):=by unfold bt;infer_instance
theorem Be{arr:PA}{base n t:Nat}(hn:base+n<=arr.toList.length)(ht:t<n):arr[base+t]?=((arr.toList.drop base).take n)[t]?:=by
 rw[List.getElem?_take,q07 ht,List.getElem?_drop,q0G]
theorem qw{left:Bool}{key:Keyed}{arr:PA}{base n hint:Nat}{st:SortSt}{Q:Option Nat->SortSt->Prop}(C:Cmp prog w A J a₀ kd r)(hk:kindOf st=kd)(hkey:key∈a₀.toList)
  (hi:hint<n) (hn:base+n<=arr.toList.length) (mem:∀p,p∈(arr.toList.drop base).take n->p∈a₀.toList) (srt:((arr.toList.drop base).take n).Pairwise (gP r))
  (h:∀k,k<=n->(∀p,p∈((arr.toList.drop base).take n).take k->bt r left key p)->(∀p,p∈((arr.toList.drop base).take n).drop k->¬ bt r left key p)->Q (some k) st) :
  fm (model prog w) A E J (ib left key arr base n hint) Q st:=by
 generalize hS:(arr.toList.drop base).take n=S at *;have lS:S.length=n:=by rw[<- hS];simp at hn ⊢;omega
 have at':∀t,t<n->arr[base+t]?=S[t]?:=λt ht=>by rw[<- hS];exact Be hn ht
 refine Am (B:=λt=>match S[t]? with | some x=>decide (bt r left key x) | none=>false) C hk hkey hi (λt ht=>?_) (λi j hij hj hB=>?_) λk hk' f g=>h k hk' (λp hp=>?_) λp hp=>?_
 ·have e:S[t]?=some S[t]:=JW ⋯
  refine⟨S[t],by rw[at' t ht,e],mem _ (J6 _),?_⟩;rw[e];dsimp only
  unfold bt;cases left with
  |true=>simp
  |false=>
   simp only[q0a,if_false]
   by_cases q:r key<r S[t]
   ·rw[q09 q,q08 ⋯];rfl
   ·rw[q08 q,q09 ⋯];rfl
 ·have e1:S[i]?=some S[i]:=JW ⋯
  have e2:S[j]?=some S[j]:=JW ⋯;rw[e2]at hB;rw[e1];dsimp only at hB ⊢
  have hle:r S[i]<=r S[j]:=by
   rcases Nat.lt_or_ge i j with q | q
   ·exact(List.pairwise_iff_getElem.mp srt) i j ⋯ ⋯ q
   ·have:i=j:=by omega
    subst this;exact Kj _
  have hB':=of_decide_eq_true hB;refine q09 ?_;unfold bt at hB' ⊢
  split at hB'<;>rename_i hc
  ·rw[q07 hc];omega
  ·rw[q06 hc];omega
 ·obtain⟨t,ht,e⟩:=List.mem_iff_getElem.mp hp
  rw[KA]at ht;rw[List.getElem_take]at e;have:=f t ⋯;rw[JW ⋯]at this;rw[<- e];exact of_decide_eq_true this
 ·obtain⟨t,ht,e⟩:=List.mem_iff_getElem.mp hp
  rw[KC]at ht;rw[List.getElem_drop]at e;have:=g (k+t) ⋯ ⋯;rw[JW ⋯]at this;rw[<- e];exact of_decide_eq_false this
theorem kO{left:Bool}{key p:Keyed}(h:¬ bt r left key p):if left=true then r key<=r p else r key<r p:=by
 unfold bt at h
 split at h<;>rename_i hc
 ·rw[q07 hc];omega
 ·rw[q06 hc];omega
structure MC(prog:K6)(w:K9)(A:K8)(J:Shared->Prop)(a₀:PA)(kd:SortKind)(r:Keyed->Nat)(a b:PA):Prop where
 C:Cmp prog w A J a₀ kd r
 ha:∀p,p∈a.toList->p∈a₀.toList
 hb:∀p,p∈b.toList->p∈a₀.toList
 sa:a.toList.Pairwise (gP r)
 sb:b.toList.Pairwise (gP r)
 hl:∀x,a[a.toList.length-1]?=some x->∀q,q∈b.toList->r q<=r x
def iK(r:Keyed->Nat)(a b z:PA):Prop:=z.toList.Pairwise (gP r)/\z.toList.Perm (a.toList++b.toList)
structure ji(r:Keyed->Nat)(a b o:PA)(i j:Nat):Prop where
 mi:MI (gP r) a.toList b.toList o.toList (a.toList.drop i) (b.toList.drop j)
 hi:i+1<a.toList.length
 hj:j<b.toList.length
def PG(r:Keyed->Nat)(a b:PA)(k:Nat)(z:Option PA)(o:PA)(i j:Nat):Prop:=match z with
 |some z=>iK r a b z
 |none=>ji r a b o i j/\k<=o.size
variable {a b:PA}
theorem ji.lt{o:PA}{i j:Nat}(h:ji r a b o i j):o.size<a.size+b.size:=by
 have:=h.mi.len;have h1:=h.hi;have h2:=h.hj
 simp at this h1 h2;omega
theorem FC(m:MC prog w A J a₀ kd r a b){o:PA}{i j:Nat}(h:MI (gP r) a.toList b.toList o.toList (a.toList.drop i) (b.toList.drop j))(hj:(j==b.size)=true\/(i==a.size)=true):iK r a b (Bp a b o i j):=by
 unfold iK;rw[show(Bp a b o i j).toList=o.toList++(a.toList.drop i++b.toList.drop j) by simp only[Bp,q0V,wZ,Kw]];rcases hj with hj | hj
 ·have e:b.toList.drop j=[]:=List.drop_eq_nil_of_le (by have:=eq_of_beq hj;simp;omega)
  rw[e]at h ⊢;rw[Kv];exact h.finX m.sa
 ·have e:a.toList.drop i=[]:=List.drop_eq_nil_of_le (by have:=eq_of_beq hj;simp;omega)
  rw[e]at h ⊢;rw[KN];exact h.finY m.sb
theorem Gb(m:MC prog w A J a₀ kd r a b){o:PA}{i j:Nat}(h:MI (gP r) a.toList b.toList o.toList (a.toList.drop i) (b.toList.drop j))(hi:(i+1==a.size)=true):iK r a b (D5 a b o i j):=by
 have e:=eq_of_beq hi;obtain⟨x,k,d,e3⟩:=gi a (i:=i) (by simp;omega);have c:a.toList.drop (i+1)=[]:=List.drop_eq_nil_of_le (by simp;omega);unfold iK;rw[show(D5 a b o i j).toList=o.toList++(b.toList.drop j++a.toList.drop i) by simp only[D5,q0V,wZ,Kw],d,c];rw[d,c]at h;refine h.lastX m.sb λq g=>m.hl x ?_ q (q0I g);rw[show a.toList.length-1=i by simp;omega];exact k
theorem mM{l:List Keyed}(s:l.Pairwise (gP r)){i:Nat}{y:Keyed}(e:l.drop i=y::l.drop (i+1)):∀q,q∈l.drop i->r y<=r q:=by
 intro q hq;have:=s.sublist (List.drop_sublist i l);rw[e]at this hq;rcases Kb.mp hq with rfl | hq
 ·exact Kj _
 ·exact(List.pairwise_cons.mp this).1 q hq
theorem cO{x y:Nat}(h:¬ (x==y)=true):x≠y:=λe=>h (by rw[e];exact beq_self_eq_true y)
theorem Fs(m:MC prog w A J a₀ kd r a b){st:SortSt}(hk:kindOf st=kd){o:PA}{i j g u v:Nat}(h:ji r a b o i j) :
  fm (model prog w) A E J (Gn a b g o i j u v) (λt st'=>st'=st/\match t with
   | .done s=>PG r a b (o.size+1) s.1 s.2.1 s.2.2.1 s.2.2.2.1
   | .yield s=>s.1=none/\PG r a b (o.size+1) s.1 s.2.1 s.2.2.1 s.2.2.2.1) st:=by
 unfold Gn;obtain⟨y,p,n,D⟩:=gi b h.hj;obtain⟨x,B,z,G⟩:=gi a (i:=i) (by have:=h.hi;omega);refine az (cD p (az (cD B (az (Bx m.C (m.hb _ D) (m.ha _ G) hk ?_)))));dsimp only;have mi:=h.mi
 by_cases l:r y<r x
 ·rw[q07 (q09 l)]
  refine az (cD p ?_);rw[n]at mi;have c:MI (gP r) a.toList b.toList (o.push y).toList (a.toList.drop i) (b.toList.drop (j+1)):=by
   rw[Array.toList_push];exact mi.oneY m.sb λq k=>by have:=mM m.sa z q k;show r y<=r q;omega
  by_cases d:(j+1==b.size)=true
  ·rw[q07 d];exact aC ⟨rfl,FC m c (.inl d)⟩
  ·rw[q06 d]
   have e:ji r a b (o.push y) i (j+1):=⟨c,h.hi,by have:=cO d;have:=h.hj;simp at this ⊢;omega⟩
   split
   ·exact aC ⟨rfl,e,by simp⟩
   ·exact aC ⟨rfl,rfl,e,by simp⟩
 ·rw[q06 (by simpa using l)]
  refine az (cD B ?_);rw[z]at mi;have c:MI (gP r) a.toList b.toList (o.push x).toList (a.toList.drop (i+1)) (b.toList.drop j):=by
   rw[Array.toList_push];exact mi.oneX m.sa λq k=>by have:=mM m.sb n q k;show r x<=r q;omega
  by_cases d:(i+1+1==a.size)=true
  ·rw[q07 d];exact aC ⟨rfl,Gb m c d⟩
  ·rw[q06 d]
   have e:ji r a b (o.push x) (i+1) j:=⟨c,by have:=cO d;have:=h.hi;simp at this ⊢;omega,h.hj⟩
   split
   ·exact aC ⟨rfl,e,by simp⟩
   ·exact aC ⟨rfl,rfl,e,by simp⟩
theorem mN{g:Nat}{st:SortSt}{Q:Unit->SortSt->Prop}(h:∀st',SG st st'->Q () st'):fm (model prog w) A E J (lH g) Q st:=by
 unfold lH;exact c5 (h _ ⟨rfl,rfl,rfl,rfl⟩)
theorem xt{l:List Keyed}(i:Nat):(l.drop i).take (l.length-i)=l.drop i:=q0F (by simp)
theorem Dq(m:MC prog w A J a₀ kd r a b){st:SortSt}{o:PA}{i j g u v k:Nat}(h:ji r a b o i j)(hk:k<=o.size)(hx:∀x,a[i]?=some x->∀q,q∈b.toList.drop j->r x<=r q) :
  fm (model prog w) A E J (F8 a b o i j g u v) (λt st'=>st'=st/\match t with
   | .done s=>PG r a b (k+1) s.1 s.2.1 s.2.2.1 s.2.2.2.1
   | .yield s=>s.1=none/\PG r a b (k+1) s.1 s.2.1 s.2.2.1 s.2.2.2.1) st:=by
 unfold F8;obtain⟨x,l,n,a3⟩:=gi a (i:=i) (by have:=h.hi;omega);refine az (cD l ?_);have mi:=h.mi;rw[n]at mi;have c:MI (gP r) a.toList b.toList (o.push x).toList (a.toList.drop (i+1)) (b.toList.drop j):=by
  rw[Array.toList_push];exact mi.oneX m.sa (hx x l)
 by_cases d:(i+1+1==a.size)=true
 ·rw[q07 d];exact aC ⟨rfl,Gb m c d⟩
 ·rw[q06 d]
  have e:ji r a b (o.push x) (i+1) j:=⟨c,by have:=cO d;have:=h.hi;simp at this ⊢;omega,h.hj⟩
  split
  ·exact aC ⟨rfl,e,by simp;omega⟩
  ·exact aC ⟨rfl,rfl,e,by simp;omega⟩
theorem jt(l:List Keyed)(i k:Nat):l.drop i=(l.drop i).take k++l.drop (i+k):=by
 rw[<- List.drop_drop];exact(List.take_append_drop k _).symm
theorem DM(m:MC prog w A J a₀ kd r a b){st:SortSt}(hk:kindOf st=kd){o:PA}{i j g u v k:Nat}(h:ji r a b o i j)(hz:k<=o.size)(hy:∀y,b[j]?=some y->∀q,q∈a.toList.drop i->r y<=r q) :
  fm (model prog w) A E J (F3 a b o i j g u v) (λt st'=>st'=st/\match t with
   | .done s=>PG r a b (k+1) s.1 s.2.1 s.2.2.1 s.2.2.2.1
   | .yield s=>s.1=none/\PG r a b (k+1) s.1 s.2.1 s.2.2.1 s.2.2.2.1) st:=by
 unfold F3;obtain⟨y,T,b2,b3⟩:=gi b h.hj;obtain⟨x,M,a2,a3⟩:=gi a (i:=i) (by have:=h.hi;omega);refine az (cD T ?_);have mi:=h.mi;rw[b2]at mi;have c:MI (gP r) a.toList b.toList (o.push y).toList (a.toList.drop i) (b.toList.drop (j+1)):=by
  rw[Array.toList_push];exact mi.oneY m.sb (hy y T)
 by_cases G:(j+1==b.size)=true
 ·rw[q07 G];exact aC ⟨rfl,FC m c (.inl G)⟩
 ·rw[q06 G]
  have hj:=h.hj;have hj1:j+1<b.size:=by have:=cO G;simp at hj;omega
  have I:((b.toList.drop (j+1)).take (b.size-(j+1)))=b.toList.drop (j+1):=by have:=xt (l:=b.toList) (j+1);simpa using this
  refine az (cD M (az (qw m.C hk (m.ha _ a3) ⋯ (by simp;omega) (by rw[I];exact λp L=>m.hb p (q0I L)) (by rw[I];exact m.sb.sublist (List.drop_sublist _ _)) λe he S f2=>?_)));rw[I]at S f2;dsimp only;have Y:∀p,p∈(b.toList.drop (j+1)).take e->∀q,q∈a.toList.drop i->r p<=r q:=λp L q n=>by
   have O:r p<r x:=S p L;have:=mM m.sa a2 q n;omega
  have R:∀q,q∈b.toList.drop (j+1+e)->r x<=r q:=λq n=>by
   have O:=kO (f2 q (by rw[List.drop_drop];exact n));exact O
  by_cases B:e>0
  ·rw[q07 B]
   have z:MI (gP r) a.toList b.toList (o.push y++b.extract (j+1) (j+1+e)).toList (a.toList.drop i) (b.toList.drop (j+1+e)):=by
    rw[q0V,mW];rw[jt b.toList (j+1) e]at c;exact c.takeY m.sb Y
   by_cases d:(j+1+e==b.size)=true
   ·rw[q07 d];exact aC ⟨rfl,FC m z (.inl d)⟩
   ·rw[q06 d]
    exact Dq m ⟨z,h.hi,by have:=cO d;simp;omega⟩ (by simp;omega) λU D q n=>by rw[M]at D;cases D;exact R q n
  ·rw[q06 B]
   have Z:e=0:=by omega
   subst Z;exact Dq m ⟨c,h.hi,by simp;omega⟩ (by simp;omega) λU D q n=>by rw[M]at D;cases D;exact R q n
theorem Fz(m:MC prog w A J a₀ kd r a b){st:SortSt}(hk:kindOf st=kd){o:PA}{i j g u v:Nat}(h:ji r a b o i j) :
  fm (model prog w) A E J (FO a b o i j g u v) (λt st'=>SG st st'/\match t with
   | .done s=>PG r a b (o.size+1) s.1 s.2.1 s.2.2.1 s.2.2.2.1
   | .yield s=>s.1=none/\PG r a b (o.size+1) s.1 s.2.1 s.2.2.1 s.2.2.2.1) st:=by
 unfold FO;refine az (mN λst' z=>?_);have x:kindOf st'=kd:=z.1.trans hk;obtain⟨y,M,b2,b3⟩:=gi b h.hj;have hi:=h.hi;have hi0:i+1<a.size:=by simpa using hi
 have I:((a.toList.drop i).take (a.size-i))=a.toList.drop i:=by have:=xt (l:=a.toList) i;simpa using this
 refine az (cD M (az (qw m.C x (m.hb _ b3) ⋯ (by simp;omega) (by rw[I];exact λp L=>m.ha p (q0I L)) (by rw[I];exact m.sa.sublist (List.drop_sublist _ _)) λe he R f2=>?_)));rw[I]at R f2;dsimp only;have Y:∀p,p∈(a.toList.drop i).take e->∀q,q∈b.toList.drop j->r p<=r q:=λp L q n=>by
  have U:r p<=r y:=R p L;have:=mM m.sb b2 q n;omega
 have O:∀q,q∈a.toList.drop (i+e)->r y<=r q:=λq n=>by
  have U:r y<r q:=kO (f2 q (by rw[List.drop_drop];exact n));omega
 by_cases B:e>0
 ·rw[q07 B]
  have d:MI (gP r) a.toList b.toList (o++a.extract i (i+e)).toList (a.toList.drop (i+e)) (b.toList.drop j):=by
   rw[q0V,mW];have mi:=h.mi;rw[jt a.toList i e]at mi;exact mi.takeX m.sa Y
  by_cases G:(i+e+1==a.size)=true
  ·rw[q07 G];exact aC ⟨z,Gb m d G⟩
  ·rw[q06 G]
   by_cases c:(i+e==a.size)=true
   ·rw[q07 c];exact aC ⟨z,FC m d (.inr c)⟩
   ·rw[q06 c]
    refine bV (DM (k:=o.size) m x ⟨d,by have:=cO G;have:=cO c;simp;omega,h.hj⟩ (by simp) λS D q n=>by rw[M]at D;cases D;exact O q n) λt T q=>⟨by rw[q.1];exact z,q.2⟩
 ·rw[q06 B]
  have Z:e=0:=by omega
  subst Z;exact bV (DM (k:=o.size) m x h (Kj _) λS D q n=>by rw[M]at D;cases D;exact O q n) λt T q=>⟨by rw[q.1];exact z,q.2⟩
theorem SG.trans{x y z:SortSt}(h:SG x y)(k:SG y z):SG x z:=⟨k.1.trans h.1,k.2.1.trans h.2.1,k.2.2.1.trans h.2.2.1,k.2.2.2.trans h.2.2.2⟩
theorem Fn(m:MC prog w A J a₀ kd r a b){st:SortSt}(hk:kindOf st=kd){s:L0}(h:ji r a b s.2.1 s.2.2.1 s.2.2.2.1) :
  fm (model prog w) A E J (GR a b s) (λt st'=>SG st st'/\match t with
   | .done u=>∃z,u.1=some z/\iK r a b z
   | .yield u=>u.1=none/\ji r a b u.2.1 u.2.2.1 u.2.2.2.1/\s.2.1.size+1<=u.2.1.size) st:=by
 unfold GR;refine az (bV (eD (I:=λx c st'=>st'=st/\c.1=none/\ji r a b c.2.1 c.2.2.1 c.2.2.2.1/\s.2.1.size+x<=c.2.1.size)
  (Q:=λc st'=>st'=st/\PG r a b (s.2.1.size+1) c.1 c.2.1 c.2.2.1 c.2.2.2.1) ?s1 ?e1 ⟨rfl,rfl,h,Kj _⟩) ?p1)
 case e1=>
  rintro c st' ⟨rfl,D,k,C⟩;have:=k.lt;omega
 case s1=>
  rintro x c st' _ C ⟨rfl,D,k,G⟩;refine bV (Fs m hk k) λt d q=>?_;obtain⟨rfl,q⟩:=q;cases t with
  |done u=>
   refine⟨rfl,?_⟩;dsimp only at q
   revert q;unfold PG;cases u.1 with
   |some z=>exact id
   |none=>exact λq=>⟨q.1,by have:=q.2;omega⟩
  |yield u=>
   obtain⟨y,p⟩:=q;rw[y]at p;exact⟨rfl,y,p.1,by have:=p.2;omega⟩
 case p1=>
  rintro⟨z,o,i,j,u,v⟩ st' ⟨rfl,q⟩;cases z with
  |some z=>exact aC ⟨SG.refl _,z,rfl,q⟩
  |none=>
   obtain⟨k,G⟩:=q;dsimp only;refine az (jR λ_ L=>wpAny_rule ⟨L,?_⟩);refine az (bV (eD (I:=λx c d=>SG st' d/\c.1=none/\ji r a b c.2.1 c.2.2.1 c.2.2.2.1/\s.2.1.size+1<=c.2.1.size)
    (Q:=λc d=>SG st' d/\PG r a b (s.2.1.size+1) c.1 c.2.1 c.2.2.1 c.2.2.2.1) ?s2 ?e2 ⟨SG.refl _,rfl,k,G⟩) ?p2)
   case e2=>
    rintro c d ⟨n,D,k,C⟩;exact⟨n,by rw[D];exact⟨k,C⟩⟩
   case s2=>
    rintro x c d _ C ⟨n,D,k,G⟩;have B:∀g,fm (model prog w) A E J (FO a b c.2.1 c.2.2.1 c.2.2.2.1 g c.2.2.2.2.2.1 c.2.2.2.2.2.2) (λt e=>match t with
      | .done c'=>SG st' e/\PG r a b (s.2.1.size+1) c'.1 c'.2.1 c'.2.2.1 c'.2.2.2.1
      | .yield c'=>SG st' e/\c'.1=none/\ji r a b c'.2.1 c'.2.2.1 c'.2.2.2.1/\s.2.1.size+1<=c'.2.1.size) d:=by
     intro g;refine bV (Fz m (n.1.trans hk) k) λt e q=>?_;obtain⟨l,q⟩:=q;cases t with
     |done u=>
      refine⟨n.trans l,?_⟩;dsimp only at q
      revert q;unfold PG;cases u.1 with
      |some z=>exact id
      |none=>exact λq=>⟨q.1,by have:=q.2;omega⟩
     |yield u=>
      obtain⟨y,p⟩:=q;rw[y]at p;exact⟨n.trans l,y,p.1,by have:=p.2;omega⟩
    split
    ·exact bV (B _) λt e q=>by cases t<;>exact q
    ·exact bV (B _) λt e q=>by cases t<;>exact q
   case p2=>
    rintro⟨z,o2,i2,j2,g2,u2,v2⟩ d ⟨n,q⟩;cases z with
    |some z=>exact aC ⟨n,z,rfl,q⟩
    |none=>exact az (mN λe l=>aC ⟨n.trans l,rfl,q.1,q.2⟩)
theorem ym(m:MC prog w A J a₀ kd r a b){st:SortSt}(hk:kindOf st=kd){Q:PA->SortSt->Prop}(h0:∀y,b[0]?=some y->∀q,q∈a.toList->r y<=r q)
  (na:0<a.toList.length) (nb:0<b.toList.length) (h:∀l st',SG st st'->iK r a b l->Q l st'):fm (model prog w) A E J (uQ a b) Q st:=by
 rw[wL];unfold DI
 obtain⟨y,B,v,b3⟩:=gi b nb;refine az (jR λs j=>wpAny_rule ⟨j,az (cD B ?_)⟩);have n:MI (gP r) a.toList b.toList (#[y]:PA).toList (a.toList.drop 0) (b.toList.drop 1):=by
  have:=MI.start (le:=gP r) a.toList b.toList;rw[show b.toList=y::b.toList.drop 1 from v]at this;have h2:=MI.oneY (by rw[show b.toList=y::b.toList.drop 1 from v];exact this) m.sb (h0 y B);exact h2
 by_cases k:((1:Nat)==b.size)=true
 ·rw[q07 k];exact aC (h _ _ (SG.refl _) (FC m n (.inl k)))
 ·rw[q06 k]
  by_cases d:((0:Nat)+1==a.size)=true
  ·rw[q07 d];exact aC (h _ _ (SG.refl _) (Gb m n d))
  ·rw[q06 d]
   refine az (gD ?_);refine az (bV (eD (I:=λx c st'=>SG st st'/\c.1=none/\ji r a b c.2.1 c.2.2.1 c.2.2.2.1/\x+1<=c.2.1.size)
    (Q:=λc st'=>SG st st'/\∃z,c.1=some z/\iK r a b z) ?s ?e ⟨SG.refl _,rfl,⟨n,by have:=cO d;simp at na ⊢;omega,by have:=cO k;simp at nb ⊢;omega⟩,by simp⟩) ?p)
   case e=>
    rintro c st' ⟨_,D,o,C⟩;have:=o.lt;omega
   case s=>
    rintro x c st' _ C ⟨i,D,o,hz⟩;refine bV (Fn m (i.1.trans hk) o) λt st2 q=>?_;obtain⟨g,q⟩:=q;cases t with
    |done u=>exact⟨i.trans g,q⟩
    |yield u=>exact⟨i.trans g,q.1,q.2.1,by have:=q.2.2;omega⟩
   case p=>
    rintro⟨z,u⟩ st' ⟨i,z',e,q⟩;dsimp only at e;subst e;exact aC (h _ _ i q)
end
def uN:PA->PA->SM PA:=sortPriv% PySem.Builtin.mergeHi
abbrev H1:=Option PA×Nat×Nat×PA×Nat×Nat
abbrev H2:=Option PA×Nat×Nat×PA×Nat×Nat×Nat
abbrev H0:=Option PA×Nat×Nat×PA×Nat
abbrev Bq(a b:PA)(i j:Nat)(o:PA):PA:=a.extract 0 i++b.extract 0 j++o.reverse
abbrev E3(a b:PA)(i j:Nat)(o:PA):PA:=b.extract 0 j++a.extract 0 i++o.reverse
def FD(a b:PA)(g:Nat)(i j:Nat)(o:PA)(m n:Nat):SM (ForInStep H1):=
 elem' b (j-1) >>= λy=>elem' a (i-1) >>= λx=>lt' y x >>= λt=>match t with
 |some t=>if t=true then elem' a (i-1) >>= λx=>
   if(i-1==0)=true then pure (.done (some (Bq a b (i-1) j (o.push x)),i-1,j,o.push x,m+1,0))
   else if m+1≥g then pure (.done (none,i-1,j,o.push x,m+1,0)) else pure (.yield (none,i-1,j,o.push x,m+1,0))
  else elem' b (j-1) >>= λy=>
   if(j-1==1)=true then pure (.done (some (E3 a b i (j-1) (o.push y)),i,j-1,o.push y,0,n+1))
   else if n+1≥g then pure (.done (none,i,j-1,o.push y,0,n+1)) else pure (.yield (none,i,j-1,o.push y,0,n+1))
 |_=>pure (.done (some (Bq a b i j o),i,j,o,m,n))
def F6(a b:PA)(i j:Nat)(o:PA)(g m n:Nat):SM (ForInStep H2):=
 elem' a (i-1) >>= λx=>if(i-1==0)=true then pure (.done (some (Bq a b (i-1) j (o.push x)),i-1,j,o.push x,g,m,n))
  else if(decide (m<7)&&decide (n<7))=true then pure (.done (none,i-1,j,o.push x,g,m,n)) else pure (.yield (none,i-1,j,o.push x,g,m,n))
def Gc(a b:PA)(i j:Nat)(o:PA)(g m n:Nat):SM (ForInStep H2):=
 elem' b (j-1) >>= λy=>if(j-1==1)=true then pure (.done (some (E3 a b i (j-1) (o.push y)),i,j-1,o.push y,g,m,n))
  else elem' a (i-1) >>= λx=>ib true x b 0 (j-1) (j-1-1) >>= λt=>match t with
  |some k=>if j-1-k>0 then
    if(k==1)=true then pure (.done (some (E3 a b i k (o.push y++(b.extract k (j-1)).reverse)),i,k,o.push y++(b.extract k (j-1)).reverse,g,m,j-1-k))
    else if(k==0)=true then pure (.done (some (Bq a b i k (o.push y++(b.extract k (j-1)).reverse)),i,k,o.push y++(b.extract k (j-1)).reverse,g,m,j-1-k))
    else F6 a b i k (o.push y++(b.extract k (j-1)).reverse) g m (j-1-k)
   else F6 a b i (j-1) (o.push y) g m (j-1-k)
  |_=>pure (.done (some (Bq a b i (j-1) (o.push y)),i,j-1,o.push y,g,m,n))
def kH(a b:PA)(i j:Nat)(o:PA)(g m n:Nat):SM (ForInStep H2):=
 lH g >>= λ_=>elem' b (j-1) >>= λy=>ib false y a 0 i (i-1) >>= λt=>match t with
  |some k=>if i-k>0 then
    if(k==0)=true then pure (.done (some (Bq a b k j (o++(a.extract k i).reverse)),k,j,o++(a.extract k i).reverse,g,i-k,n))
    else Gc a b k j (o++(a.extract k i).reverse) g (i-k) n
   else Gc a b i j o g (i-k) n
  |_=>pure (.done (some (Bq a b i j o),i,j,o,g,m,n))
def Gu(a b:PA)(s:H0):SM (ForInStep H0):=
 forIn [0:a.size+b.size] ((none,s.2.1,s.2.2.1,s.2.2.2.1,0,0):H1) (λ_ t=>FD a b s.2.2.2.2 t.2.1 t.2.2.1 t.2.2.2.1 t.2.2.2.2.1 t.2.2.2.2.2) >>= λt=>
 match t.1 with
 |some z=>pure (.done (some z,t.2.1,t.2.2.1,t.2.2.2.1,s.2.2.2.2))
 |none=>liftM (rule "list.sort.gallop") >>= λ_=>
  forIn [0:a.size+b.size] ((none,t.2.1,t.2.2.1,t.2.2.2.1,s.2.2.2.2+1,t.2.2.2.2.1,t.2.2.2.2.2):H2) (λ_ u=>
   if u.2.2.2.2.1>1 then kH a b u.2.1 u.2.2.1 u.2.2.2.1 (u.2.2.2.2.1-1) u.2.2.2.2.2.1 u.2.2.2.2.2.2 else kH a b u.2.1 u.2.2.1 u.2.2.2.1 u.2.2.2.2.1 u.2.2.2.2.2.1 u.2.2.2.2.2.2) >>= λu=>
  match u.1 with
  |some z=>pure (.done (some z,u.2.1,u.2.2.1,u.2.2.2.1,u.2.2.2.2.1))
  |none=>lH (u.2.2.2.2.1+1) >>= λ_=>pure (.yield (none,u.2.1,u.2.2.1,u.2.2.2.1,u.2.2.2.2.1+1))
def DK(a b:PA):SM PA:=
 liftM (rule "list.sort.merge-hi") >>= λ_=>elem' a (a.size-1) >>= λx=>
 if(a.size-1==0)=true then pure (Bq a b (a.size-1) b.size #[x]) else if(b.size==1)=true then pure (E3 a b (a.size-1) b.size #[x]) else
 get >>= λst=>forIn [0:a.size+b.size] ((none,a.size-1,b.size,#[x],gallopOf st):H0) (λ_ s=>Gu a b s) >>= λs=>
 match s.1 with
 |some z=>pure z
 |none=>liftM (unsupported "internal:list.sort.merge-bound":Sem PA)
theorem wS(a b:PA):uN a b=DK a b:=by
 refine aR rfl λ_=>aR rfl λy=>dJ rfl (dJ rfl (aR rfl λst=>aR (gK λ_ s=>?_) λs=>?_))
 ·refine aR (gK λ_ t=>?_) λt=>?_
  ·refine aR rfl λy=>aR rfl λx=>aR rfl λt=>?_
   rfl
  ·obtain⟨z,t⟩:=t
   cases z with
   |some z=>rfl
   |none=>
    refine aR rfl λ_=>aR (gK λ_ u=>dJ ?_ ?_) λu=>?_
    ·rfl
    ·rfl
    ·obtain⟨z,u⟩:=u
     cases z<;>rfl
 ·obtain⟨z,s⟩:=s
  cases z<;>rfl
section
variable {prog:K6}{w:K9}{A:K8}{E:KW}{J:Shared->Prop}{a₀:Array Keyed}{kd:SortKind}{r:Keyed->Nat}{a b:PA}
abbrev Bt(r:Keyed->Nat):Keyed->Keyed->Prop:=λp q=>r q<=r p
theorem gn{l:List Keyed}(h:l.Pairwise (gP r)):l.reverse.Pairwise (Bt r):=List.pairwise_reverse.mpr h
theorem Au{α:Type}(a:Array α)(i:Nat):(a.extract 0 i).toList=a.toList.take i:=by
 rw[Array.toList_extract];simp[List.extract]
theorem xN{α:Type}(a:Array α){k i:Nat}(h:k<=i):(a.extract k i).reverse.toList=((a.toList.take i).drop k).reverse:=by
 rw[Array.toList_reverse,Array.toList_extract];simp only[List.extract];rw[<- List.drop_take]
theorem fZ(a:PA)(s:a.toList.Pairwise (gP r)){i:Nat}(h0:0<i)(h:i<=a.toList.length) :
  ∃x,a[i-1]?=some x/\(a.toList.take i).reverse=x::(a.toList.take (i-1)).reverse/\x∈a.toList/\∀q,q∈a.toList.take i->r q<=r x:=by
 have e:a.toList.take i=a.toList.take (i-1)++[a.toList[i-1]]:=by
  have:=List.take_succ_eq_append_getElem (l:=a.toList) (i:=i-1) ⋯
  rwa [show i-1+1=i by omega]at this
 refine⟨a.toList[i-1],?_,by rw[e,KD];rfl,J6 _,λq hq=>?_⟩
 ·rw[<- q0G,JW ⋯]
 ·have b:=s.sublist (List.take_sublist i _)
  rw[e]at b hq;rcases J'.mp hq with hq | hq
  ·exact(List.pairwise_append.mp b).2.2 q hq _ (List.mem_singleton_self _)
  ·rw[J0.mp hq];exact Kj _
structure MH(prog:K6)(w:K9)(A:K8)(J:Shared->Prop)(a₀:PA)(kd:SortKind)(r:Keyed->Nat)(a b:PA):Prop where
 C:Cmp prog w A J a₀ kd r
 ha:∀p,p∈a.toList->p∈a₀.toList
 hb:∀p,p∈b.toList->p∈a₀.toList
 sa:a.toList.Pairwise (gP r)
 sb:b.toList.Pairwise (gP r)
 h0:∀y,b[0]?=some y->∀q,q∈a.toList->r y<=r q
abbrev u7(r:Keyed->Nat)(a b o:PA)(i j:Nat):Prop:=MI (Bt r) a.toList.reverse b.toList.reverse o.toList (a.toList.take i).reverse (b.toList.take j).reverse
structure jr(r:Keyed->Nat)(a b o:PA)(i j:Nat):Prop where
 mi:u7 r a b o i j
 hi:0<i
 hi':i<=a.toList.length
 hj:1<j
 hj':j<=b.toList.length
def PH(r:Keyed->Nat)(a b:PA)(k:Nat)(z:Option PA)(i j:Nat)(o:PA):Prop:=match z with
 |some z=>iK r a b z
 |none=>jr r a b o i j/\k<=o.size
theorem jr.lt{o:PA}{i j:Nat}(h:jr r a b o i j):o.size<a.size+b.size:=by
 have:=h.mi.len;have h1:=h.hi;have h2:=h.hj;have d:=h.hi';have c:=h.hj'
 simp at this d c;omega
theorem nU{z:PA}{l:List Keyed}(e:z.toList=l.reverse)(h:l.Pairwise (Bt r)/\l.Perm (a.toList.reverse++b.toList.reverse)):iK r a b z:=by
 unfold iK;rw[e]
 exact⟨List.pairwise_reverse.mpr h.1,(List.reverse_perm _).trans (h.2.trans ((List.reverse_perm _).append (List.reverse_perm _)))⟩
theorem FQ(m:MH prog w A J a₀ kd r a b){o:PA}{i j:Nat}(h:u7 r a b o i j)(hj:i=0\/j=0):iK r a b (Bq a b i j o):=by
 rcases hj with rfl | rfl
 ·have c:MI (Bt r) a.toList.reverse b.toList.reverse o.toList [] (b.toList.take j).reverse:=h
  exact nU (by simp only[Bq,q0V,Au,Array.toList_reverse,KD,KF,List.take_zero,KN]) (c.finY (gn m.sb))
 ·have c:MI (Bt r) a.toList.reverse b.toList.reverse o.toList (a.toList.take i).reverse []:=h
  exact nU (by simp only[Bq,q0V,Au,Array.toList_reverse,KD,KF,List.take_zero,Kv]) (c.finX (gn m.sa))
theorem F9(m:MH prog w A J a₀ kd r a b){o:PA}{i j:Nat}(h:u7 r a b o i j)(hj:j=1)(hb:0<b.toList.length):iK r a b (E3 a b i j o):=by
 subst hj;obtain⟨y,n,k,e3,e4⟩:=fZ b m.sb (i:=1) ⋯ ⋯;have c:(b.toList.take 1).reverse=[y]:=by rw[k];rfl
 have e:MI (Bt r) a.toList.reverse b.toList.reverse o.toList (a.toList.take i).reverse [y]:=by rw[<- c];exact h
 have g:b.toList.take 1=[y]:=by have:=q0R List.reverse c;simpa using this
 refine nU (l:=o.toList++((a.toList.take i).reverse++[y])) ?_ ?_
 ·simp only[E3,q0V,Au,Array.toList_reverse,KD,KF,g,List.reverse_singleton,Kw]
 ·have:=e.swap.lastX (gn m.sa) λq d=>m.h0 y n q (q0H (List.mem_reverse.mp d))
  exact⟨this.1,this.2.trans List.perm_append_comm⟩
theorem FA(m:MH prog w A J a₀ kd r a b){st:SortSt}(hk:kindOf st=kd){o:PA}{i j g u v:Nat}(h:jr r a b o i j) :
  fm (model prog w) A E J (FD a b g i j o u v) (λt st'=>st'=st/\match t with
   | .done s=>PH r a b (o.size+1) s.1 s.2.1 s.2.2.1 s.2.2.2.1
   | .yield s=>s.1=none/\PH r a b (o.size+1) s.1 s.2.1 s.2.2.1 s.2.2.2.1) st:=by
 unfold FD;have h1:=h.hi;have h2:=h.hj;have p:=h.hi';have n:=h.hj'
 obtain⟨y,z,I,G,D⟩:=fZ b m.sb (i:=j) ⋯ n;obtain⟨x,B,O,M,L⟩:=fZ a m.sa (i:=i) ⋯ p;refine az (cD z (az (cD B (az (Bx m.C (m.hb _ G) (m.ha _ M) hk ?_)))));dsimp only;have mi:MI (Bt r) a.toList.reverse b.toList.reverse o.toList (a.toList.take i).reverse (b.toList.take j).reverse:=h.mi
 by_cases l:r y<r x
 ·rw[q07 (q09 l)]
  refine az (cD B ?_);rw[O]at mi;have c:u7 r a b (o.push x) (i-1) j:=by
   unfold u7;rw[Array.toList_push]
   exact mi.oneX (gn m.sa) λq k=>by have:=D q (List.mem_reverse.mp k);show r q<=r x;omega
  by_cases d:(i-1==0)=true
  ·rw[q07 d];exact aC ⟨rfl,FQ m c (.inl (eq_of_beq d))⟩
  ·rw[q06 d]
   have e:jr r a b (o.push x) (i-1) j:=⟨c,by have:=cO d;omega,⋯,h2,n⟩
   split
   ·exact aC ⟨rfl,e,by simp⟩
   ·exact aC ⟨rfl,rfl,e,by simp⟩
 ·rw[q06 (by simpa using l)]
  refine az (cD z ?_);rw[I]at mi;have c:u7 r a b (o.push y) i (j-1):=by
   unfold u7;rw[Array.toList_push]
   exact mi.oneY (gn m.sb) λq k=>by have:=L q (List.mem_reverse.mp k);show r q<=r y;omega
  by_cases d:(j-1==1)=true
  ·rw[q07 d];exact aC ⟨rfl,F9 m c (eq_of_beq d) ⋯⟩
  ·rw[q06 d]
   have e:jr r a b (o.push y) i (j-1):=⟨c,h1,p,by have:=cO d;omega,⋯⟩
   split
   ·exact aC ⟨rfl,e,by simp⟩
   ·exact aC ⟨rfl,rfl,e,by simp⟩
theorem DB(m:MH prog w A J a₀ kd r a b){st:SortSt}{o:PA}{i j g u v k:Nat}(h:jr r a b o i j)(hk:k<=o.size)(hx:∀x,a[i-1]?=some x->∀q,q∈b.toList.take j->r q<=r x) :
  fm (model prog w) A E J (F6 a b i j o g u v) (λt st'=>st'=st/\match t with
   | .done s=>PH r a b (k+1) s.1 s.2.1 s.2.2.1 s.2.2.2.1
   | .yield s=>s.1=none/\PH r a b (k+1) s.1 s.2.1 s.2.2.1 s.2.2.2.1) st:=by
 unfold F6;have h1:=h.hi;have h2:=h.hj;have y:=h.hi';have p:=h.hj'
 obtain⟨x,l,z,a3,a4⟩:=fZ a m.sa (i:=i) ⋯ y;refine az (cD l ?_);have mi:MI (Bt r) a.toList.reverse b.toList.reverse o.toList (a.toList.take i).reverse (b.toList.take j).reverse:=h.mi;rw[z]at mi;have c:u7 r a b (o.push x) (i-1) j:=by
  unfold u7;rw[Array.toList_push];exact mi.oneX (gn m.sa) λq n=>hx x l q (List.mem_reverse.mp n)
 by_cases d:(i-1==0)=true
 ·rw[q07 d];exact aC ⟨rfl,FQ m c (.inl (eq_of_beq d))⟩
 ·rw[q06 d]
  have e:jr r a b (o.push x) (i-1) j:=⟨c,by have:=cO d;omega,⋯,h2,p⟩
  split
  ·exact aC ⟨rfl,e,by simp;omega⟩
  ·exact aC ⟨rfl,rfl,e,by simp;omega⟩
theorem qz(l:List Keyed){k i:Nat}(h:k<=i):(l.take i).reverse=((l.take i).drop k).reverse++(l.take k).reverse:=by
 rw[<- KD];have:=List.take_append_drop k (l.take i);rw[List.take_take,KS h]at this;rw[this]
theorem Do(m:MH prog w A J a₀ kd r a b){st:SortSt}(hk:kindOf st=kd){o:PA}{i j g u v k:Nat}(h:jr r a b o i j)(hz:k<=o.size)(hy:∀y,b[j-1]?=some y->∀q,q∈a.toList.take i->r q<=r y) :
  fm (model prog w) A E J (Gc a b i j o g u v) (λt st'=>st'=st/\match t with
   | .done s=>PH r a b (k+1) s.1 s.2.1 s.2.2.1 s.2.2.2.1
   | .yield s=>s.1=none/\PH r a b (k+1) s.1 s.2.1 s.2.2.1 s.2.2.2.1) st:=by
 unfold Gc;have h1:=h.hi;have h2:=h.hj;have M:=h.hi';have Z:=h.hj'
 obtain⟨y,T,b2,b3,b4⟩:=fZ b m.sb (i:=j) ⋯ Z;obtain⟨x,O,a2,a3,a4⟩:=fZ a m.sa (i:=i) ⋯ M;refine az (cD T ?_);have mi:MI (Bt r) a.toList.reverse b.toList.reverse o.toList (a.toList.take i).reverse (b.toList.take j).reverse:=h.mi;rw[b2]at mi;have c:u7 r a b (o.push y) i (j-1):=by
  unfold u7;rw[Array.toList_push];exact mi.oneY (gn m.sb) λq d=>hy y T q (List.mem_reverse.mp d)
 by_cases G:(j-1==1)=true
 ·rw[q07 G];exact aC ⟨rfl,F9 m c (eq_of_beq G) ⋯⟩
 ·rw[q06 G]
  have hc':=cO G;refine az (cD O (az (qw m.C hk (m.ha _ a3) ⋯ ⋯ (by rw[KU];exact λp I=>m.hb p (q0H I)) (by rw[KU];exact m.sb.sublist (List.take_sublist _ _)) λe L S f2=>?_)));rw[KU]at S f2;dsimp only;have g1:∀p,p∈((b.toList.take (j-1)).drop e).reverse->∀q,q∈(a.toList.take i).reverse->r q<=r p:=λp I q d=>by
   have Y:r x<=r p:=kO (f2 p (List.mem_reverse.mp I));have:=a4 q (List.mem_reverse.mp d);omega
  have R:∀q,q∈b.toList.take e->r q<=r x:=λq d=>by
   have Y:r q<r x:=S q (by rw[List.take_take,KS L];exact d);omega
  by_cases B:j-1-e>0
  ·rw[q07 B]
   have z:u7 r a b (o.push y++(b.extract e (j-1)).reverse) i e:=by
    unfold u7 at c ⊢;rw[q0V,xN b L];rw[qz b.toList L]at c;exact c.takeY (gn m.sb) g1
   by_cases n:(e==1)=true
   ·rw[q07 n];exact aC ⟨rfl,F9 m z (eq_of_beq n) ⋯⟩
   ·rw[q06 n]
    by_cases l:(e==0)=true
    ·rw[q07 l];exact aC ⟨rfl,FQ m z (.inr (eq_of_beq l))⟩
    ·rw[q06 l]
     exact DB m ⟨z,h1,M,by have:=cO n;have:=cO l;omega,⋯⟩ (by simp;omega) λU D q d=>by rw[O]at D;cases D;exact R q d
  ·rw[q06 B]
   have e0:e=j-1:=by omega
   subst e0;exact DB m ⟨c,h1,M,⋯,⋯⟩ (by simp;omega) λU D q d=>by rw[O]at D;cases D;exact R q d
theorem Fu(m:MH prog w A J a₀ kd r a b){st:SortSt}(hk:kindOf st=kd){o:PA}{i j g u v:Nat}(h:jr r a b o i j) :
  fm (model prog w) A E J (kH a b i j o g u v) (λt st'=>SG st st'/\match t with
   | .done s=>PH r a b (o.size+1) s.1 s.2.1 s.2.2.1 s.2.2.2.1
   | .yield s=>s.1=none/\PH r a b (o.size+1) s.1 s.2.1 s.2.2.1 s.2.2.2.1) st:=by
 unfold kH;refine az (mN λst' z=>?_);have d:kindOf st'=kd:=z.1.trans hk;have h1:=h.hi;have h2:=h.hj;have h3:=h.hi';have L:=h.hj'
 obtain⟨y,I,b2,Z,Y⟩:=fZ b m.sb (i:=j) ⋯ L;refine az (cD I (az (qw m.C d (m.hb _ Z) ⋯ ⋯ (by rw[KU];exact λp D=>m.ha p (q0H D)) (by rw[KU];exact m.sa.sublist (List.take_sublist _ _)) λe G O f2=>?_)));rw[KU]at O f2;dsimp only;have T:∀p,p∈((a.toList.take i).drop e).reverse->∀q,q∈(b.toList.take j).reverse->r q<=r p:=λp D q c=>by
  have q1:r y<r p:=kO (f2 p (List.mem_reverse.mp D));have:=Y q (List.mem_reverse.mp c);omega
 have M:∀q,q∈a.toList.take e->r q<=r y:=λq c=>O q (by rw[List.take_take,KS G];exact c)
 by_cases n:i-e>0
 ·rw[q07 n]
  have l:u7 r a b (o++(a.extract e i).reverse) e j:=by
   have mi:=h.mi;unfold u7 at mi ⊢;rw[q0V,xN a G];rw[qz a.toList G]at mi;exact mi.takeX (gn m.sa) T
  by_cases B:(e==0)=true
  ·rw[q07 B];exact aC ⟨z,FQ m l (.inl (eq_of_beq B))⟩
  ·rw[q06 B]
   exact bV (Do (k:=o.size) m d ⟨l,by have:=cO B;omega,⋯,h2,L⟩ (by simp) λR x q c=>by rw[I]at x;cases x;exact M q c) λt S q=>⟨by rw[q.1];exact z,q.2⟩
 ·rw[q06 n]
  have U:e=i:=by omega
  subst U;exact bV (Do (k:=o.size) m d h (Kj _) λR x q c=>by rw[I]at x;cases x;exact M q c) λt S q=>⟨by rw[q.1];exact z,q.2⟩
theorem Fo(m:MH prog w A J a₀ kd r a b){st:SortSt}(hk:kindOf st=kd){s:H0}(h:jr r a b s.2.2.2.1 s.2.1 s.2.2.1) :
  fm (model prog w) A E J (Gu a b s) (λt st'=>SG st st'/\match t with
   | .done u=>∃z,u.1=some z/\iK r a b z
   | .yield u=>u.1=none/\jr r a b u.2.2.2.1 u.2.1 u.2.2.1/\s.2.2.2.1.size+1<=u.2.2.2.1.size) st:=by
 unfold Gu;refine az (bV (eD (I:=λx c st'=>st'=st/\c.1=none/\jr r a b c.2.2.2.1 c.2.1 c.2.2.1/\s.2.2.2.1.size+x<=c.2.2.2.1.size)
  (Q:=λc st'=>st'=st/\PH r a b (s.2.2.2.1.size+1) c.1 c.2.1 c.2.2.1 c.2.2.2.1) ?s1 ?e1 ⟨rfl,rfl,h,Kj _⟩) ?p1)
 case e1=>
  rintro c st' ⟨rfl,D,k,C⟩;have:=k.lt;omega
 case s1=>
  rintro x c st' _ C ⟨rfl,D,k,G⟩;refine bV (FA m hk k) λt d q=>?_;obtain⟨rfl,q⟩:=q;cases t with
  |done u=>
   refine⟨rfl,?_⟩;dsimp only at q
   revert q;unfold PH;cases u.1 with
   |some z=>exact id
   |none=>exact λq=>⟨q.1,by have:=q.2;omega⟩
  |yield u=>
   obtain⟨y,p⟩:=q;rw[y]at p;exact⟨rfl,y,p.1,by have:=p.2;omega⟩
 case p1=>
  rintro⟨z,i,j,o,u,v⟩ st' ⟨rfl,q⟩;cases z with
  |some z=>exact aC ⟨SG.refl _,z,rfl,q⟩
  |none=>
   obtain⟨k,G⟩:=q;dsimp only;refine az (jR λ_ L=>wpAny_rule ⟨L,?_⟩);refine az (bV (eD (I:=λx c d=>SG st' d/\c.1=none/\jr r a b c.2.2.2.1 c.2.1 c.2.2.1/\s.2.2.2.1.size+1<=c.2.2.2.1.size)
    (Q:=λc d=>SG st' d/\PH r a b (s.2.2.2.1.size+1) c.1 c.2.1 c.2.2.1 c.2.2.2.1) ?s2 ?e2 ⟨SG.refl _,rfl,k,G⟩) ?p2)
   case e2=>
    rintro c d ⟨n,D,k,C⟩;exact⟨n,by rw[D];exact⟨k,C⟩⟩
   case s2=>
    rintro x c d _ C ⟨n,D,k,G⟩;have B:∀g,fm (model prog w) A E J (kH a b c.2.1 c.2.2.1 c.2.2.2.1 g c.2.2.2.2.2.1 c.2.2.2.2.2.2) (λt e=>match t with
      | .done c'=>SG st' e/\PH r a b (s.2.2.2.1.size+1) c'.1 c'.2.1 c'.2.2.1 c'.2.2.2.1
      | .yield c'=>SG st' e/\c'.1=none/\jr r a b c'.2.2.2.1 c'.2.1 c'.2.2.1/\s.2.2.2.1.size+1<=c'.2.2.2.1.size) d:=by
     intro g;refine bV (Fu m (n.1.trans hk) k) λt e q=>?_;obtain⟨l,q⟩:=q;cases t with
     |done u=>
      refine⟨n.trans l,?_⟩;dsimp only at q
      revert q;unfold PH;cases u.1 with
      |some z=>exact id
      |none=>exact λq=>⟨q.1,by have:=q.2;omega⟩
     |yield u=>
      obtain⟨y,p⟩:=q;rw[y]at p;exact⟨n.trans l,y,p.1,by have:=p.2;omega⟩
    split
    ·exact bV (B _) λt e q=>by cases t<;>exact q
    ·exact bV (B _) λt e q=>by cases t<;>exact q
   case p2=>
    rintro⟨z,i2,j2,o2,g2,u2,v2⟩ d ⟨n,q⟩;cases z with
    |some z=>exact aC ⟨n,z,rfl,q⟩
    |none=>exact az (mN λe l=>aC ⟨n.trans l,rfl,q.1,q.2⟩)
theorem zj(m:MH prog w A J a₀ kd r a b){st:SortSt}(hk:kindOf st=kd){Q:PA->SortSt->Prop}(hl:∀x,a[a.size-1]?=some x->∀q,q∈b.toList->r q<=r x)
  (na:0<a.toList.length) (nb:0<b.toList.length) (h:∀l st',SG st st'->iK r a b l->Q l st'):fm (model prog w) A E J (uN a b) Q st:=by
 rw[wS];unfold DK
 obtain⟨x,B,D,a3,a4⟩:=fZ a m.sa (i:=a.toList.length) na (Kj _);have C:a.toList.length=a.size:=by simp
 have y:b.toList.length=b.size:=by simp
 rw[C]at B D;refine az (jR λs j=>wpAny_rule ⟨j,az (cD B ?_)⟩);have o:u7 r a b #[x] (a.size-1) b.size:=by
  have h1:=MI.start (le:=Bt r) a.toList.reverse b.toList.reverse;have O:a.toList.reverse=x::(a.toList.take (a.size-1)).reverse:=by rw[<- D,<- C,Kz]
  have h2:MI (Bt r) a.toList.reverse b.toList.reverse [] (x::(a.toList.take (a.size-1)).reverse) b.toList.reverse:=by rw[<- O];exact h1
  have M:=h2.oneX (gn m.sa) λq L=>hl x B q (List.mem_reverse.mp L);unfold u7;rw[show b.toList.take b.size=b.toList by rw[<- y,Kz]];exact M
 by_cases n:(a.size-1==0)=true
 ·rw[q07 n];exact aC (h _ _ (SG.refl _) (FQ m o (.inl (eq_of_beq n))))
 ·rw[q06 n]
  by_cases d:(b.size==1)=true
  ·rw[q07 d];exact aC (h _ _ (SG.refl _) (F9 m o (eq_of_beq d) nb))
  ·rw[q06 d]
   refine az (gD ?_);refine az (bV (eD (I:=λx c st'=>SG st st'/\c.1=none/\jr r a b c.2.2.2.1 c.2.1 c.2.2.1/\x+1<=c.2.2.2.1.size)
    (Q:=λc st'=>SG st st'/\∃z,c.1=some z/\iK r a b z) ?s ?e ⟨SG.refl _,rfl,⟨o,by have:=cO n;show 0<a.size-1;omega,by show a.size-1<=_;omega,by have:=cO d;show 1<b.size;omega,by show b.size<=_;omega⟩,by simp⟩) ?p)
   case e=>
    rintro c st' ⟨_,R,v,G⟩;have:=v.lt;omega
   case s=>
    rintro x c st' _ G ⟨k,R,v,hz⟩;refine bV (Fo m (k.1.trans hk) v) λt st2 q=>?_;obtain⟨g,q⟩:=q;cases t with
    |done u=>exact⟨k.trans g,q⟩
    |yield u=>exact⟨k.trans g,q.1,q.2.1,by have:=q.2.2;omega⟩
   case p=>
    rintro⟨z,u⟩ st' ⟨k,z',e,q⟩;dsimp only at e;subst e;exact aC (h _ _ k q)
end
section
variable {prog:K6}{w:K9}{A:K8}{E:KW}{J:Shared->Prop}{a₀:Array Keyed}{kd:SortKind}{r:Keyed->Nat}
theorem xr(s:Nat):∀(l:List Keyed) (n:Nat) (arr:PA),s+n+l.length<=arr.toList.length ->
  ((l.zipIdx n).foldl (λa (x:Keyed×Nat)=>a.setIfInBounds (s+x.2) x.1) arr).toList=arr.toList.take (s+n)++l++arr.toList.drop (s+n+l.length)
 | [],n,arr,h=>by simp
 |p::l,n,arr,h=>by
  rw[List.zipIdx_cons,List.foldl_cons,xr s l (n+1) _ (by simp at h ⊢;omega),Array.toList_setIfInBounds];dsimp only;have hlt:s+n<arr.toList.length:=by simp at h ⊢;omega
  have c:(arr.toList.set (s+n) p).take (s+(n+1))=arr.toList.take (s+n)++[p]:=by
   rw[show s+(n+1)=(s+n)+1 by omega,List.take_succ_eq_append_getElem (by simpa using hlt),List.take_set_of_le (Kj _),List.getElem_set_self]
  have b:(arr.toList.set (s+n) p).drop (s+(n+1)+l.length)=arr.toList.drop (s+n+(p::l).length):=by
   rw[List.drop_set_of_lt ⋯];congr 1;simp;omega
  rw[c,b];simp
structure SB(a₀:PA)(kd:SortKind)(st:SortSt):Prop where
 perm:(arrOf st).toList.Perm a₀.toList
 kind:kindOf st=kd
 failed:failedOf st=none
theorem qd{l u x v:List Keyed}(e:l=u++(x++v)):(l.drop u.length).take x.length=x:=by
 rw[e,List.drop_left,List.take_left]
theorem yK{st:SortSt}{Q:Bool->SortSt->Prop}(C:Cmp prog w A J a₀ kd r)(B:SB a₀ kd st){p1 p2:List (Nat×Nat×Nat)}{pw pw':Nat}{u x y v:List Keyed}
  (hp:(pendingOf st).toList=p1++(u.length,x.length,pw)::(u.length+x.length,y.length,pw')::p2) (ha:(arrOf st).toList=u++(x++(y++v)))
  (hx:x≠[]) (hy:y≠[]) (sx:x.Pairwise (gP r)) (sy:y.Pairwise (gP r))
  (h:∀st' z,SB a₀ kd st'->(pendingOf st').toList=p1++(u.length,x.length+y.length,pw)::p2->(arrOf st').toList=u++(z++v)->z.Perm (x++y)->z.Pairwise (gP r)->Q true st') :
  fm (model prog w) A E J (mergeAt' p1.length) Q st:=by
 unfold mergeAt';refine az (gD ?_);have e1:(pendingOf st)[p1.length]?=some (u.length,x.length,pw):=by rw[<- q0G,hp];simp
 have e2:(pendingOf st)[p1.length+1]?=some (u.length+x.length,y.length,pw'):=by rw[<- q0G,hp];simp
 have hL:u.length+x.length+y.length<=(arrOf st).toList.length:=by rw[ha];simp;omega
 have m:∀p,p∈x++y->p∈a₀.toList:=λp c=>B.perm.mem_iff.mp (by
  rw[ha];rcases J'.mp c with q | q<;>simp[q])
 obtain⟨d,g,rfl⟩:∃d g,y=d::g:=by cases y with | nil=>exact q0Q rfl hy | cons p q=>exact⟨p,q,rfl⟩
 have ey:(arrOf st)[u.length+x.length]?=some d:=by rw[<- q0G,ha,Kg ⋯,Kg ⋯];simp
 have a0:0<x.length:=List.length_pos_iff.mpr hx;have ex:(arrOf st)[u.length+x.length-1]?=some (x[x.length-1]'⋯):=by
  rw[<- q0G,ha,Kg ⋯,Kh ⋯,JW ⋯];congr 2;omega
 generalize M:(x[x.length-1]'⋯)=xl at ex;have a1:xl∈x:=by rw[<- M];exact J6 _
 have lst:∀p,p∈x->r p<=r xl:=λp c=>by
  obtain⟨t,ht,e⟩:=List.mem_iff_getElem.mp c;rw[<- e,<- M];rcases Nat.lt_or_ge t (x.length-1) with q | q
  ·exact(List.pairwise_iff_getElem.mp sx) _ _ _ _ q
  ·have:t=x.length-1:=by omega
   subst this;exact Kj _
 have hd:∀q,q∈d::g->r d<=r q:=λq hq=>by
  rcases Kb.mp hq with rfl | hq
  ·exact Kj _
  ·exact(List.pairwise_cons.mp sy).1 q hq
 have G:((arrOf st).toList.drop u.length).take x.length=x:=qd ha;have D:((arrOf st).toList.drop (u.length+x.length)).take (d::g).length=d::g:=by
  have:=qd (l:=(arrOf st).toList) (u:=u++x) (x:=d::g) (v:=v) (by rw[ha];simp)
  rwa [Ki]at this
 have j:(((pendingOf st).setIfInBounds p1.length (u.length,x.length+(d::g).length,pw)).eraseIdxIfInBounds (p1.length+1)).toList=p1++(u.length,x.length+(d::g).length,pw)::p2:=by
  rw[Array.toList_eraseIdxIfInBounds,Array.toList_setIfInBounds,hp];simp[List.eraseIdx_append_of_length_le]
 have o:∀st',SB a₀ kd st'->(pendingOf st').toList=p1++(u.length,x.length+(d::g).length,pw)::p2->arrOf st'=arrOf st->(∀p,p∈x->∀q,q∈d::g->r p<=r q)->Q true st':=λst' B' p' a' q=>
  h st' (x++(d::g)) B' p' (by rw[a',ha,Kw]) (List.Perm.refl _) (List.pairwise_append.mpr ⟨sx,sy,q⟩)
 dsimp only;rw[e1,e2];dsimp only;refine az (Fg ?_);refine az (cD ey (az (qw C B.kind (m _ (by simp)) a0 (by show u.length+x.length<=(arrOf st).toList.length;omega) (by rw[G];exact λp q=>m p (q0D _ q)) (by rw[G];exact sx) λk hk f1 f2=>?_)));rw[G]at f1 f2;dsimp only;have g1:∀p,p∈x.take k->r p<=r d:=f1;have g2:∀p,p∈x.drop k->r d<r p:=λp c=>kO (f2 p c)
 by_cases hc:(x.length-k==0)=true
 ·rw[q07 hc]
  have:x.take k=x:=q0F (by have:=eq_of_beq hc;omega);rw[this]at g1;exact aC (o _ ⟨B.perm,B.kind,B.failed⟩ j rfl λp c q hq=>Ks (g1 p c) (hd q hq))
 ·rw[q06 hc]
  have hc':=cO hc;refine az (cD (p:=xl) (by rw[show u.length+k+(x.length-k)-1=u.length+x.length-1 by omega];exact ex) (az (qw C B.kind (m _ (q0D _ a1)) (by simp) (by simpa using hL) (by rw[D];exact λp q=>m p (q0C _ q)) (by rw[D];exact sy) λn hn f3 f4=>?_)));rw[D]at f3 f4;dsimp only;have g3:∀p,p∈(d::g).take n->r p<r xl:=f3;have g4:∀p,p∈(d::g).drop n->r xl<=r p:=λp c=>kO (f4 p c)
  by_cases I:(n==0)=true
  ·rw[q07 I]
   have e0:n=0:=eq_of_beq I;subst e0;exact aC (o _ ⟨B.perm,B.kind,B.failed⟩ j rfl λp c q hq=>Ks (lst p c) (g4 q hq))
  ·rw[q06 I]
   have hn0':=cO I;have S:((arrOf st).extract (u.length+k) (u.length+x.length)).toList=x.drop k:=by
    rw[show u.length+x.length=(u.length+k)+(x.length-k) by omega,mW,<- List.drop_drop,<- List.drop_take,G]
   have R:((arrOf st).extract (u.length+x.length) (u.length+x.length+n)).toList=(d::g).take n:=by
    rw[mW];have:=q0R (List.take n) D
    rwa [List.take_take,KS hn]at this
   generalize(arrOf st).extract (u.length+k) (u.length+x.length)=aa at S ⊢;generalize(arrOf st).extract (u.length+x.length) (u.length+x.length+n)=bb at R ⊢;have la:aa.toList.length=x.length-k:=by rw[S,KC]
   have lb:bb.toList.length=n:=by rw[R,KA];omega
   have h0:∀y,bb[0]?=some y->∀q,q∈aa.toList->r y<=r q:=λy e q hq=>by
    rw[<- q0G,R]at e;have:y=d:=by
     rw[List.getElem?_take,q07 ⋯]at e;exact(q0S e).symm
    subst this;rw[S]at hq;exact q0P (g2 q hq)
   have hl:∀z,aa[aa.toList.length-1]?=some z->∀q,q∈bb.toList->r q<=r z:=λz e q hq=>by
    rw[<- q0G,la,S,List.getElem?_drop,show k+(x.length-k-1)=x.length-1 by omega,JW ⋯,M]at e;cases e;rw[R]at hq;exact q0P (g3 q hq)
   have Z:∀p,p∈aa.toList->p∈a₀.toList:=λp c=>m p (q0D _ (q0I (by rw[<- S];exact c)));have Y:∀p,p∈bb.toList->p∈a₀.toList:=λp c=>m p (q0C _ (q0H (by rw[<- R];exact c)));have U:aa.toList.Pairwise (gP r):=by rw[S];exact sx.sublist (List.drop_sublist _ _)
   have T:bb.toList.Pairwise (gP r):=by rw[R];exact sy.sublist (List.take_sublist _ _)
   have fin:∀(l:PA) (st':SortSt),kindOf st'=kd->arrOf st'=arrOf st->(pendingOf st').toList=p1++(u.length,x.length+(d::g).length,pw)::p2->failedOf st'=none->iK r aa bb l ->
     Q true (setArr st' (l.toList.zipIdx.foldl (λa (x:Keyed×Nat)=>a.setIfInBounds (u.length+k+x.2) x.1) (arrOf st'))):=by
    intro l st' k' a' p' O good;have i:=good.2;rw[S,R]at i;have ll:=i.length_eq;rw[Ki,KC,KA,KS hn]at ll;have ez:(l.toList.zipIdx.foldl (λa (x:Keyed×Nat)=>a.setIfInBounds (u.length+k+x.2) x.1) (arrOf st')).toList=u++((x.take k++l.toList++(d::g).drop n)++v):=by
     rw[xr (u.length+k) l.toList 0 _ (by rw[a'];omega),a',ha,ll];rw[show u.length+k+0=u.length+k by omega,List.take_length_add_append,List.take_append_of_le_length hk,
      show u.length+k+(x.length-k+n)=u.length+(x.length+n) by omega,List.drop_length_add_append,List.drop_length_add_append,List.drop_append_of_le_length hn]
     simp only[Kw]
    have zp:(x.take k++l.toList++(d::g).drop n).Perm (x++(d::g)):=by
     refine((i.append_left (x.take k)).append_right _).trans ?_;rw[<- Kw,List.take_append_drop,Kw,List.take_append_drop]
    refine h _ (x.take k++l.toList++(d::g).drop n) ⟨?_,k',O⟩ p' ez zp ?_
    ·have pz:(u++((x.take k++l.toList++(d::g).drop n)++v)).Perm a₀.toList:=by
      refine List.Perm.trans ?_ (show((arrOf st).toList).Perm _ from B.perm);rw[ha];refine List.Perm.append_left u ?_;rw[<- Kw x];exact zp.append_right v
     rw[<- ez]at pz;exact pz
    ·have ml:∀p,p∈l.toList->p∈x.drop k\/p∈(d::g).take n:=λp c=>J'.mp (i.mem_iff.mp c)
     refine List.pairwise_append.mpr ⟨List.pairwise_append.mpr ⟨sx.sublist (List.take_sublist _ _),good.1,λp c q hq=>?_⟩,sy.sublist (List.drop_sublist _ _),λp c q hq=>?_⟩
     ·rcases ml q hq with q1 | q1
      ·exact Ks (g1 p c) (q0P (g2 q q1))
      ·exact Ks (g1 p c) (hd q (q0H q1))
     ·rcases J'.mp c with q1 | q1
      ·exact Ks (lst p (q0H q1)) (g4 q hq)
      ·rcases ml p q1 with q2 | q2
       ·exact Ks (lst p (q0I q2)) (g4 q hq)
       ·exact Ks (q0P (g3 p q2)) (g4 q hq)
   split
   ·refine az (ym (a:=aa) (b:=bb) ⟨C,Z,Y,U,T,hl⟩ (by exact B.kind) h0 ⋯ ⋯ λl st' L good=>?_)
    refine az (c5 (az (gD (aC ?_))));have O:failedOf st'=none:=L.2.2.2.trans B.failed;have:=fin l st' (L.1.trans B.kind) L.2.1 (by rw[L.2.2.1];exact j) O good;show Q (failedOf st').isNone _;rw[O];exact this
   ·refine az (zj (a:=aa) (b:=bb) ⟨C,Z,Y,U,T,h0⟩ (by exact B.kind) (by simpa using hl) ⋯ ⋯ λl st' L good=>?_)
    refine az (c5 (az (gD (aC ?_))));have O:failedOf st'=none:=L.2.2.2.trans B.failed;have:=fin l st' (L.1.trans B.kind) L.2.1 (by rw[L.2.2.1];exact j) O good;show Q (failedOf st').isNone _;rw[O];exact this
end
abbrev As:=Option (Option Nat)×Nat
abbrev Ds:=Option (Option Nat)×Nat×Nat
def E_(lo a n:Nat):SM As:=forIn [a:n] ((none,a):As) λ_ s=>ltAt' (lo+s.2) (lo+s.2-1) >>= λt=>match t with
 |some t=>if t=true then pure (.done (none,s.2)) else pure (.yield (none,s.2+1))
 |_=>pure (.done (some none,s.2))
def Dp(lo m n:Nat):SM (Option Nat):=reverseSlice' lo (lo+m) >>= λ_=>E_ lo m n >>= λs=>match s.1 with
 |some z=>pure z
 |none=>pure (some s.2)
def F0(lo m n:Nat):SM Ds:=forIn [m:n] ((none,m,0):Ds) λ_ s=>ltAt' (lo+s.2.1) (lo+s.2.1-1) >>= λt=>match t with
 |some t=>if t=true then
   if s.2.2>0 then reverseSlice' (lo+s.2.1-(s.2.2+1)) (lo+s.2.1) >>= λ_=>pure (.yield (none,s.2.1+1,0)) else pure (.yield (none,s.2.1+1,0))
  else ltAt' (lo+s.2.1-1) (lo+s.2.1) >>= λt=>match t with
   |some t=>if t=true then pure (.done (none,s.2.1,s.2.2)) else pure (.yield (none,s.2.1+1,s.2.2+1))
   |_=>pure (.done (some none,s.2.1,s.2.2))
 |_=>pure (.done (some none,s.2.1,s.2.2))
def E5(lo m n:Nat):SM (Option Nat):=liftM (rule "list.sort.descending-run") >>= λ_=>F0 lo (m+1) n >>= λs=>match s.1 with
 |some z=>pure z
 |none=>if s.2.2>0 then reverseSlice' (lo+s.2.1-(s.2.2+1)) (lo+s.2.1) >>= λ_=>Dp lo s.2.1 n else Dp lo s.2.1 n
def BD(lo n:Nat):SM (Option Nat):=E_ lo 1 n >>= λs=>match s.1 with
 |some z=>pure z
 |none=>if(s.2==n)=true then pure (some s.2) else if s.2>1 then ltAt' lo (lo+s.2-1) >>= λt=>match t with
   |some t=>if t=true then pure (some s.2) else reverseSlice' lo (lo+s.2) >>= λ_=>E5 lo s.2 n
   |_=>pure none
  else E5 lo s.2 n
theorem lD{β:Type}{rg:Std.Legacy.Range}{c:β}{f g:Nat->β->SM (ForInStep β)}(h:∀x s,f x s=g x s):(forIn rg c f:SM β)=forIn rg c g:=by
 rw[show f=g from funext λx=>funext λs=>h x s]
theorem rZ(lo m n:Nat){f:As->SM (Option Nat)}(h:∀s,f s=match s.1 with | some z=>pure z | none=>pure (some s.2)){F:Nat->As->SM (ForInStep As)}
  (hF:∀x s,F x s=(ltAt' (lo+s.2) (lo+s.2-1) >>= λt=>match t with
   |some t=>if t=true then pure (.done (none,s.2)) else pure (.yield (none,s.2+1))
   |_=>pure (.done (some none,s.2)))):(reverseSlice' lo (lo+m) >>= λ_=>(forIn [m:n] ((none,m):As) F:SM As) >>= f)=Dp lo m n:=by
 unfold Dp E_;exact aR rfl λ_=>aR (lD hF) h
theorem uA(lo n:Nat):countRun' lo n=BD lo n:=by
 have a:∀(m:Nat) {G:Ds->SM (Option Nat)} {F:Nat->Ds->SM (ForInStep Ds)},
   (∀s:Ds,G s=match s.1 with
    |some z=>pure z
    |none=>if s.2.2>0 then reverseSlice' (lo+s.2.1-(s.2.2+1)) (lo+s.2.1) >>= λ_=>Dp lo s.2.1 n else Dp lo s.2.1 n) ->
   (∀x s,F x s=(ltAt' (lo+s.2.1) (lo+s.2.1-1) >>= λt=>match t with
    |some t=>if t=true then
      if s.2.2>0 then reverseSlice' (lo+s.2.1-(s.2.2+1)) (lo+s.2.1) >>= λ_=>pure (.yield (none,s.2.1+1,0)) else pure (.yield (none,s.2.1+1,0))
     else ltAt' (lo+s.2.1-1) (lo+s.2.1) >>= λt=>match t with
      |some t=>if t=true then pure (.done (none,s.2.1,s.2.2)) else pure (.yield (none,s.2.1+1,s.2.2+1))
      |_=>pure (.done (some none,s.2.1,s.2.2))
    |_=>pure (.done (some none,s.2.1,s.2.2)))) ->
   ((liftM (rule "list.sort.descending-run"):SM Unit) >>= λ_=>(forIn [m+1:n] ((none,m+1,0):Ds) F:SM Ds) >>= G)=E5 lo m n:=by
  intro m G F b c;unfold E5 F0;exact aR rfl λ_=>aR (lD c) b
 unfold BD E_;refine aR (lD λx s=>rfl) λs=>?_;obtain⟨z,m⟩:=s;cases z with
 |some z=>rfl
 |none=>
  refine dJ rfl (dJ (aR rfl λt=>?_) ?_)
  ·cases t with
   |none=>rfl
   |some t=>
    refine dJ rfl (aR rfl λ_=>a m (λs=>?_) λx s=>rfl);obtain⟨z,m,q⟩:=s;cases z with
    |some z=>rfl
    |none=>exact dJ (aR rfl λ_=>rZ lo m n (λs=>by obtain⟨z,m⟩:=s;cases z<;>rfl) λx s=>rfl) (rZ lo m n (λs=>by obtain⟨z,m⟩:=s;cases z<;>rfl) λx s=>rfl)
  ·refine a m (λs=>?_) λx s=>rfl
   obtain⟨z,m,q⟩:=s;cases z with
   |some z=>rfl
   |none=>exact dJ (aR rfl λ_=>rZ lo m n (λs=>by obtain⟨z,m⟩:=s;cases z<;>rfl) λx s=>rfl) (rZ lo m n (λs=>by obtain⟨z,m⟩:=s;cases z<;>rfl) λx s=>rfl)
section
variable {prog:K6}{w:K9}{A:K8}{E:KW}{J:Shared->Prop}{a₀:Array Keyed}{kd:SortKind}{r:Keyed->Nat}
def Kr(r:Keyed->Nat)(xs:PA)(i:Nat):Nat:=match xs[i]? with
 |some p=>r p
 |none=>0
theorem ud{xs ys:PA}{i j:Nat}(h:xs[i]?=ys[j]?):Kr r xs i=Kr r ys j:=by unfold Kr;rw[h]
def Up(r:Keyed->Nat)(xs:PA)(lo n:Nat):Prop:=∀i j,i<=j->j<n->Kr r xs (lo+i)<=Kr r xs (lo+j)
def Dn(r:Keyed->Nat)(xs:PA)(lo n:Nat):Prop:=∀i j,i<=j->j<n->Kr r xs (lo+j)<=Kr r xs (lo+i)
structure KB(a₀:PA)(kd:SortKind)(lo:Nat)(st₀ st:SortSt):Prop where
 sb:SB a₀ kd st
 pe:pendingOf st=pendingOf st₀
 be:∀i,i<lo->(arrOf st)[i]?=(arrOf st₀)[i]?
theorem SB.size{st:SortSt}(h:SB a₀ kd st):(arrOf st).size=a₀.size:=by simpa using h.perm.length_eq
theorem KB.set{lo:Nat}{st₀ st:SortSt}(h:KB a₀ kd lo st₀ st){xs:PA}(hp:xs.Perm (arrOf st))(hb:∀i,i<lo->xs[i]?=(arrOf st)[i]?):KB a₀ kd lo st₀ (setArr st xs):=
 ⟨⟨(Array.perm_iff_toList_perm.mp hp).trans h.sb.perm,h.sb.kind,h.sb.failed⟩,h.pe,λi hi=>(hb i hi).trans (h.be i hi)⟩
theorem tS(C:Cmp prog w A J a₀ kd r){st:SortSt}(B:SB a₀ kd st){i j:Nat}(hi:i<a₀.size)(hj:j<a₀.size){Q:Option Bool->SortSt->Prop}
  (h:Q (some (decide (Kr r (arrOf st) i<Kr r (arrOf st) j))) st):fm (model prog w) A E J (ltAt' i j) Q st:=by
 have a:∀k,k<a₀.size->∃p,(arrOf st)[k]?=some p/\p∈a₀.toList:=λk g=>by
  have b:k<(arrOf st).size:=by rw[B.size];exact g
  exact⟨(arrOf st)[k],getElem?_pos _ k b,B.perm.mem_iff.mp (by simp)⟩
 obtain⟨p,d,m1⟩:=a i hi;obtain⟨q,c,e⟩:=a j hj;rw[ltAt'_eq];refine az (gD (az (cD d (az (cD c (Bx C m1 e B.kind ?_))))));unfold Kr at h;rw[d,c]at h;exact h
theorem lM{xs:PA}{i j:Nat}(hj:j<=xs.size)(k:Nat):Kr r (mirror xs i j ((j-i)/2)) k=if i<=k/\k<j then Kr r xs (i+j-1-k) else Kr r xs k:=by
 have e:=getElem?_mirror_all (i:=i) hj k
 by_cases h1:i<=k/\k<j
 ·rw[q07 h1]at e ⊢;exact ud e
 ·rw[q06 h1]at e ⊢;exact ud e
theorem c_{xs:PA}{i j:Nat}(hj:j<=xs.size)(heq:∀k,i<=k->k<j->Kr r xs k=Kr r xs (j-1))(k:Nat):Kr r (mirror xs i j ((j-i)/2)) k=Kr r xs k:=by
 rw[lM hj]
 split
 ·rw[heq _ ⋯ ⋯,heq k ⋯ ⋯]
 ·rfl
theorem xu{lo i j:Nat}{st₀ st:SortSt}(B:KB a₀ kd lo st₀ st)(hi:lo<=i)(hj:j<=a₀.size){Q:Unit->SortSt->Prop}
  (h:KB a₀ kd lo st₀ (setArr st (mirror (arrOf st) i j ((j-i)/2)))->Q () (setArr st (mirror (arrOf st) i j ((j-i)/2)))):fm (model prog w) A E J (reverseSlice' i j) Q st:=by
 rw[reverseSlice'_eq];refine c5 (h (B.set (mirror_perm _ _ _ _) λk hk=>?_));rw[getElem?_mirror_all (by rw[B.sb.size];exact hj),q06 ⋯]
theorem Dw(C:Cmp prog w A J a₀ kd r){st:SortSt}(B:SB a₀ kd st){lo a n:Nat}{Q:As->SortSt->Prop}(hn:lo+n<=a₀.size)(ha:1<=a)(han:a<=n)(hs:Up r (arrOf st) lo a)
  (h:∀m,a<=m->m<=n->Up r (arrOf st) lo m->(m=n\/Kr r (arrOf st) (lo+m)<Kr r (arrOf st) (lo+m-1))->Q (none,m) st):fm (model prog w) A E J (E_ lo a n) Q st:=by
 unfold E_;refine eD (I:=λx c d=>d=st/\c=(none,x)/\Up r (arrOf st) lo x) ?s ?e ⟨rfl,rfl,hs⟩
 case e=>
  rintro c d ⟨rfl,rfl,b⟩;rw[show max a n=n by omega]at b ⊢;exact h n han (Kj _) b (.inl rfl)
 case s=>
  rintro x c d q hxn ⟨rfl,rfl,b⟩;dsimp only;refine az (tS C B ⋯ ⋯ ?_)
  by_cases g:Kr r (arrOf d) (lo+x)<Kr r (arrOf d) (lo+x-1)
  ·simp only[g,decide_true,if_true]
   exact aC (h x q ⋯ b (.inr g))
  ·simp only[g,decide_false,q0a,if_false]
   refine aC ⟨rfl,rfl,λi j o hj=>?_⟩
   by_cases k:j<x
   ·exact b i j o k
   ·have l:j=x:=by omega
    subst l
    by_cases p:i=j
    ·subst p;exact Kj _
    ·have:=b i (j-1) ⋯ ⋯
     rw[show lo+(j-1)=lo+j-1 by omega]at this;omega
theorem DF(C:Cmp prog w A J a₀ kd r){st₀ st:SortSt}{lo m n:Nat}(B:KB a₀ kd lo st₀ st){Q:Option Nat->SortSt->Prop}(hn:lo+n<=a₀.size)(h1:1<=m)(hm:m<=n)(hs:Dn r (arrOf st) lo m)
  (h:∀k st',KB a₀ kd lo st₀ st'->1<=k->k<=n->Up r (arrOf st') lo k->Q (some k) st'):fm (model prog w) A E J (Dp lo m n) Q st:=by
 unfold Dp;have a:lo+m<=(arrOf st).size:=by rw[B.sb.size];omega
 refine az (xu B (Kj _) ⋯ λb=>?_);refine az (Dw C b.sb hn h1 hm (λi j hij hj=>?_) λk k1 d c _=>aC (h k _ b ⋯ d c));show Kr r (mirror (arrOf st) lo (lo+m) ((lo+m-lo)/2)) (lo+i)<=Kr r (mirror (arrOf st) lo (lo+m) ((lo+m-lo)/2)) (lo+j);rw[lM a,lM a,q07 ⋯,q07 ⋯];have:=hs (m-1-j) (m-1-i) ⋯ ⋯;rw[show lo+(lo+m)-1-(lo+i)=lo+(m-1-i) by omega,show lo+(lo+m)-1-(lo+j)=lo+(m-1-j) by omega];exact this
theorem Ff(C:Cmp prog w A J a₀ kd r){st₀ st:SortSt}{lo m n:Nat}(B:KB a₀ kd lo st₀ st){Q:Ds->SortSt->Prop}(hn:lo+n<=a₀.size)(h1:1<=m)(hm:m<=n)(hs:Dn r (arrOf st) lo m)
  (h:∀k q st',KB a₀ kd lo st₀ st'->m<=k->k<=n->Dn r (arrOf st') lo k->q+1<=k->(∀i,k-(q+1)<=i->i<k->Kr r (arrOf st') (lo+i)=Kr r (arrOf st') (lo+k-1))->Q (none,k,q) st') :
  fm (model prog w) A E J (F0 lo m n) Q st:=by
 unfold F0;refine eD (I:=λx c st'=>∃q,c=(none,x,q)/\KB a₀ kd lo st₀ st'/\Dn r (arrOf st') lo x/\q+1<=x/\(∀i,x-(q+1)<=i->i<x->Kr r (arrOf st') (lo+i)=Kr r (arrOf st') (lo+x-1))) ?s ?e
  ⟨0,rfl,B,hs,⋯,λi h1 h2=>by congr 1;omega⟩
 case e=>
  rintro c st' ⟨q,rfl,d,a,o,g⟩;rw[show max m n=n by omega]at a o g ⊢;exact h n q st' d hm (Kj _) a o g
 case s=>
  rintro x c st' M hxn ⟨q,rfl,d,a,o,g⟩;dsimp only;have S:lo+x<=(arrOf st').size:=by rw[d.sb.size];omega
  have L:∀k,lo+x-(q+1)<=k->k<lo+x->Kr r (arrOf st') k=Kr r (arrOf st') (lo+x-1):=λk k1 k2=>by
   have:=g (k-lo) ⋯ ⋯
   rwa [show lo+(k-lo)=k by omega]at this
  have b:∀{u:PA},(∀k,Kr r u k=Kr r (arrOf st') k)->Kr r (arrOf st') (lo+x)<=Kr r (arrOf st') (lo+x-1)->Dn r u lo (x+1):=by
   intro u O hle i j D hj;rw[O,O]
   by_cases v:j<x
   ·exact a i j D v
   ·have y:j=x:=by omega
    subst y
    by_cases G:i=j
    ·subst G;exact Kj _
    ·have:=a i (j-1) ⋯ ⋯
     rw[show lo+(j-1)=lo+j-1 by omega]at this;omega
  refine az (tS C d.sb ⋯ ⋯ ?_)
  by_cases p:Kr r (arrOf st') (lo+x)<Kr r (arrOf st') (lo+x-1)
  ·simp only[p,decide_true,if_true]
   by_cases l:q>0
   ·rw[q07 l]
    refine az (xu d ⋯ ⋯ λU=>aC ⟨0,rfl,U,b (c_ S L) (q0P p),⋯,λi h1 h2=>by congr 1;omega⟩)
   ·rw[q06 l]
    exact aC ⟨0,rfl,d,b (λ_=>rfl) (q0P p),⋯,λi h1 h2=>by congr 1;omega⟩
  ·simp only[p,decide_false,q0a,if_false]
   refine az (tS C d.sb ⋯ ⋯ ?_)
   by_cases R:Kr r (arrOf st') (lo+x-1)<Kr r (arrOf st') (lo+x)
   ·simp only[R,decide_true,if_true]
    exact aC (h x q st' d M ⋯ a o g)
   ·simp only[R,decide_false,q0a,if_false]
    have T:Kr r (arrOf st') (lo+x)=Kr r (arrOf st') (lo+x-1):=by omega
    refine aC ⟨q+1,rfl,d,b (λ_=>rfl) ⋯,⋯,λi h1 h2=>?_⟩;rw[show lo+(x+1)-1=lo+x by omega]
    by_cases z:i=x
    ·subst z;rfl
    ·rw[T];exact g i ⋯ ⋯
theorem DG(C:Cmp prog w A J a₀ kd r){st₀ st:SortSt}{lo m n:Nat}(B:KB a₀ kd lo st₀ st){Q:Option Nat->SortSt->Prop}(hn:lo+n<=a₀.size)(hm:m+1<=n)(hs:Dn r (arrOf st) lo (m+1))
  (h:∀k st',KB a₀ kd lo st₀ st'->1<=k->k<=n->Up r (arrOf st') lo k->Q (some k) st'):fm (model prog w) A E J (E5 lo m n) Q st:=by
 unfold E5;refine az (jR λs j=>wpAny_rule ⟨j,?_⟩);refine az (Ff C B hn ⋯ hm hs λk q st' g o d a hq u=>?_);dsimp only;have l:lo+k<=(arrOf st').size:=by rw[g.sb.size];omega
 by_cases b:q>0
 ·rw[q07 b]
  refine az (xu g ⋯ ⋯ λv=>DF C v hn ⋯ d (λi j e p=>?_) h);have c:∀t,lo+k-(q+1)<=t->t<lo+k->Kr r (arrOf st') t=Kr r (arrOf st') (lo+k-1):=λt o d=>by
   have:=u (t-lo) ⋯ ⋯
   rwa [show lo+(t-lo)=t by omega]at this
  show Kr r (mirror (arrOf st') _ _ _) _<=Kr r (mirror (arrOf st') _ _ _) _;rw[c_ l c,c_ l c];exact a i j e p
 ·rw[q06 b]
  exact DF C g hn ⋯ d a h
theorem wU(C:Cmp prog w A J a₀ kd r){st:SortSt}{lo n:Nat}(B:SB a₀ kd st){Q:Option Nat->SortSt->Prop}(hn:lo+n<=a₀.size)(h1:1<=n)
  (h:∀k st',KB a₀ kd lo st st'->1<=k->k<=n->Up r (arrOf st') lo k->Q (some k) st'):fm (model prog w) A E J (countRun' lo n) Q st:=by
 rw[uA];unfold BD
 have e:KB a₀ kd lo st st:=⟨B,rfl,λ_ _=>rfl⟩;refine az (Dw C B hn (Kj 1) h1 (λi j c x=>by
  have:i=j:=by omega
  subst this;exact Kj _) λm m1 u d g=>?_)
 dsimp only
 by_cases q:m=n
 ·rw[q07 (by rw[q];exact beq_self_eq_true n)]
  exact aC (h m st e m1 u d)
 ·rw[q06 (by simpa using q)]
  have b:=g.resolve_left q
  by_cases y:m>1
  ·rw[q07 y]
   refine az (tS C B ⋯ ⋯ ?_)
   by_cases hr:Kr r (arrOf st) lo<Kr r (arrOf st) (lo+m-1)
   ·simp only[hr,decide_true,if_true]
    exact aC (h m st e m1 u d)
   ·simp only[hr,decide_false,q0a,if_false]
    have v:lo+m<=(arrOf st).size:=by rw[B.size];omega
    have all:∀k,lo<=k->k<lo+m->Kr r (arrOf st) k=Kr r (arrOf st) (lo+m-1):=λk k1 k2=>by
     have D:=d 0 (k-lo) ⋯ ⋯;have z:=d (k-lo) (m-1) ⋯ ⋯;rw[show lo+(k-lo)=k by omega]at D z;rw[show lo+(m-1)=lo+m-1 by omega]at z;rw[show lo+0=lo by omega]at D;omega
    refine az (xu e (Kj _) ⋯ λI=>DG C I hn ⋯ (λi j c x=>?_) h);show Kr r (mirror (arrOf st) _ _ _) _<=Kr r (mirror (arrOf st) _ _ _) _;rw[c_ v all,c_ v all]
    by_cases hjn:j<m
    ·rw[all (lo+i) ⋯ ⋯,all (lo+j) ⋯ ⋯];exact Kj _
    ·have o:j=m:=by omega
     subst o
     by_cases a:i=j
     ·subst a;exact Kj _
     ·rw[all (lo+i) ⋯ ⋯];exact q0P b
  ·rw[q06 y]
   have G:m=1:=by omega
   subst G;refine DG C e hn ⋯ (λi j c x=>?_) h
   by_cases a:i=j
   ·subst a;exact Kj _
   ·have p:i=0:=by omega
    have l:j=1:=by omega
    subst p;subst l
    exact q0P b
theorem p6{xs:PA}{src d:Nat}(hs:src<xs.size)(hd:d<=src)(k:Nat) :
  Kr r (bubble xs src d) k=if k=src-d then Kr r xs src else if src-d<k/\k<=src then Kr r xs (k-1) else Kr r xs k:=by
 have e:=getElem?_bubble hs d hd k
 by_cases h1:k=src-d
 ·rw[q07 h1]at e ⊢;exact ud e
 ·rw[q06 h1]at e ⊢
  by_cases h2:src-d<k/\k<=src
  ·rw[q07 h2]at e ⊢;exact ud e
  ·rw[q06 h2]at e ⊢;exact ud e
theorem FZ(C:Cmp prog w A J a₀ kd r){st₀ st:SortSt}{lo n ok:Nat}(B:KB a₀ kd lo st₀ st){Q:Bool->SortSt->Prop}(hn:lo+n<=a₀.size)(hok:ok<=n)(hs:Up r (arrOf st) lo ok)
  (h:∀st',KB a₀ kd lo st₀ st'->Up r (arrOf st') lo n->Q true st'):fm (model prog w) A E J (binarySort' lo n ok) Q st:=by
 rw[binarySort'_eq];refine az (bV (eD (I:=λk c st'=>c=(none,())/\KB a₀ kd lo st₀ st'/\Up r (arrOf st') lo (min k n)) (Q:=λc st'=>c=(none,())/\KB a₀ kd lo st₀ st'/\Up r (arrOf st') lo n) ?s ?e ?i) ?p)
 case p=>
  rintro c st' ⟨rfl,d,b⟩;exact aC (h st' d b)
 case i=>
  refine⟨rfl,B,λi j o G=>?_⟩
  by_cases h1:ok=0
  ·have:i=j:=by omega
   subst this;exact Kj _
  ·exact hs i j o ⋯
 case e=>
  rintro c st' ⟨M,d,b⟩;refine⟨M,d,?_⟩
  rwa [show min (max (max ok 1) n) n=n by omega]at b
 case s=>
  rintro k c st' hak hkn ⟨rfl,d,b⟩;rw[show min k n=k by omega]at b;refine az (bV (eD (I:=λx c a=>a=st'/\∃l u,c=(none,l,u)/\l<=u/\u<=k/\u-l<=k-x /\
    (∀i,i<l->Kr r (arrOf st') (lo+i)<=Kr r (arrOf st') (lo+k))/\(∀i,u<=i->i<k->Kr r (arrOf st') (lo+k)<Kr r (arrOf st') (lo+i)))
   (Q:=λc a=>a=st'/\∃l u,c=(none,l,u)/\l<=k /\
    (∀i,i<l->Kr r (arrOf st') (lo+i)<=Kr r (arrOf st') (lo+k))/\(∀i,l<=i->i<k->Kr r (arrOf st') (lo+k)<Kr r (arrOf st') (lo+i))) ?s2 ?e2 ?i2) ?p2)
  case i2=>exact⟨rfl,0,k,rfl,⋯,⋯,⋯,λi L=>by omega,λi h1 h2=>by omega⟩
  case e2=>
   rintro c a ⟨rfl,l,u,rfl,h1,h2,O,m,g⟩;have:l=u:=by omega
   subst this;exact⟨rfl,l,l,rfl,h2,m,g⟩
  case s2=>
   rintro x c a _ hxk ⟨rfl,l,u,rfl,h1,h2,O,m,g⟩;dsimp only
   by_cases z:l≥u
   ·rw[q07 z]
    have:l=u:=by omega
    subst this;exact aC ⟨rfl,l,l,rfl,h2,m,g⟩
   ·rw[q06 z]
    refine az (tS C d.sb ⋯ ⋯ ?_)
    by_cases q:Kr r (arrOf a) (lo+k)<Kr r (arrOf a) (lo+(l+u)/2)
    ·simp only[q,decide_true,if_true]
     exact aC ⟨rfl,l,(l+u)/2,rfl,⋯,⋯,⋯,m,λi y D=>Ke q (b _ _ y D)⟩
    ·simp only[q,decide_false,q0a,if_false]
     exact aC ⟨rfl,(l+u)/2+1,u,rfl,⋯,⋯,⋯,λi y=>Ks (b i ((l+u)/2) ⋯ ⋯) (Nat.not_lt.mp q),g⟩
  case p2=>
   rintro c a ⟨rfl,l,u,rfl,h2,m,g⟩;show fm _ _ _ _ (moveDown' (lo+k) (lo+l) >>= λ_=>pure (ForInStep.yield (none,()))) _ _;rw[moveDown'_eq];have v:lo+k<(arrOf a).size:=by rw[d.sb.size];omega
   refine az (c5 (aC ⟨rfl,d.set (bubble_perm _ _ _) λi L=>?_,?_⟩))
   ·rw[getElem?_bubble v _ ⋯,q06 ⋯,q06 ⋯]
   ·rw[show min (k+1) n=k+1 by omega]
    intro i j o G;show Kr r (bubble (arrOf a) (lo+k) (lo+k-(lo+l))) (lo+i)<=Kr r (bubble (arrOf a) (lo+k) (lo+k-(lo+l))) (lo+j);rw[p6 v ⋯,p6 v ⋯,show lo+k-(lo+k-(lo+l))=lo+l by omega]
    repeat' split
    all_goals first
     | (exfalso;omega)
     |exact Kj _
     |exact m _ ⋯
     | (rw[show lo+j-1=lo+(j-1) by omega];exact q0P (g _ ⋯ ⋯))
     | (rw[show lo+i-1=lo+(i-1) by omega,show lo+j-1=lo+(j-1) by omega];exact b _ _ ⋯ ⋯)
     | (rw[show lo+j-1=lo+(j-1) by omega];exact b _ _ ⋯ ⋯)
     |exact b _ _ ⋯ ⋯
theorem Ck{xs:PA}{lo n:Nat}(hz:lo+n<=xs.size)(h:Up r xs lo n):((xs.toList.drop lo).take n).Pairwise (gP r):=by
 rw[List.pairwise_iff_getElem];intro i j g d c;have e:j<n:=by simp at d;omega
 have a:∀k (b:k<((xs.toList.drop lo).take n).length),Kr r xs (lo+k)=r ((xs.toList.drop lo).take n)[k]:=by
  intro k b;unfold Kr;rw[Be (n:=n) (by simpa using hz) (by simp at b;omega),JW b]
 have:=h i j (q0P c) e;rw[a i g,a j d]at this;exact this
theorem KB.split{lo n:Nat}{st₀ st:SortSt}(B:KB a₀ kd lo st₀ st){u:List Keyed}{v:List Keyed}(e:(arrOf st₀).toList=u++v)(hu:u.length=lo)(hn:lo+n<=a₀.size)(hs:Up r (arrOf st) lo n) :
  ∃x v',(arrOf st).toList=u++(x++v')/\x.length=n/\x.Pairwise (gP r):=by
 have b:lo+n<=(arrOf st).size:=by rw[B.sb.size];exact hn
 refine⟨((arrOf st).toList.drop lo).take n,(arrOf st).toList.drop (lo+n),?_,by simp;omega,Ck b hs⟩;have c:(arrOf st).toList.take lo=u:=by
  apply List.ext_getElem?;intro i
  by_cases a:i<lo
  ·rw[List.getElem?_take,q07 a,q0G,B.be i a,<- q0G,e,Kh ⋯]
  ·rw[List.getElem?_take,q06 a,List.getElem?_eq_none ⋯]
 rw[<- List.drop_drop,List.take_append_drop,<- c,List.take_append_drop]
abbrev Pd:=Nat×Nat×Nat
def fB(r:Keyed->Nat):List Pd->List (List Keyed)->Nat->Prop
 | [],rs,_=>rs=[]
 |e::p,rs,k=>∃x rs',rs=x::rs'/\e.1=k/\e.2.1=x.length/\x≠[]/\x.Pairwise (gP r)/\fB r p rs' (k+x.length)
theorem fB.app:∀{p q:List Pd} {rs:List (List Keyed)} {k:Nat},fB r (p++q) rs k↔∃r1 r2,rs=r1++r2/\fB r p r1 k/\fB r q r2 (k+r1.flatten.length)
 | [],q,rs,k=>by
  constructor
  ·exact λh=>⟨[],rs,rfl,rfl,by simpa using h⟩
  ·rintro⟨r1,r2,rfl,h1,h2⟩
   cases(show r1=[] from h1)
   simpa using h2
 |e::p,q,rs,k=>by
  constructor
  ·rintro⟨x,rs',rfl,e1,e2,x0,xs,h⟩
   obtain⟨r1,r2,rfl,h1,h2⟩:=fB.app.mp h;exact⟨x::r1,r2,rfl,⟨x,r1,rfl,e1,e2,x0,xs,h1⟩,by rw[List.flatten_cons,Ki,<- Nat.add_assoc];exact h2⟩
  ·rintro⟨r1,r2,rfl,⟨x,rs',rfl,e1,e2,x0,xs,h1⟩,h2⟩
   rw[List.flatten_cons,Ki,<- Nat.add_assoc]at h2;exact⟨x,rs'++r2,rfl,e1,e2,x0,xs,fB.app.mpr ⟨rs',r2,rfl,h1,h2⟩⟩
theorem fB.many:∀{p:List Pd} {rs:List (List Keyed)} {k:Nat},fB r p rs k->p.length<=rs.flatten.length
 | [],rs,k,h=>by simp
 |e::p,rs,k,h=>by
  obtain⟨x,rs',rfl,e1,e2,x0,xs,h1⟩:=h;have:=fB.many h1;have:=List.length_pos_iff.mpr x0;simp;simp at *;omega
theorem fB.mod{f:Pd->Pd}(hf:∀e,(f e).1=e.1/\(f e).2.1=e.2.1):∀{p:List Pd} {i:Nat} {rs:List (List Keyed)} {k:Nat},fB r p rs k->fB r (p.modify i f) rs k
 | [],i,rs,k,h=>by simpa using h
 |e::p,0,rs,k,h=>by
  obtain⟨x,rs',rfl,e1,e2,q⟩:=h;rw[List.modify_zero_cons];exact⟨x,rs',rfl,(hf e).1.trans e1,(hf e).2.trans e2,q⟩
 |e::p,i+1,rs,k,h=>by
  obtain⟨x,rs',rfl,e1,e2,x0,xs,q⟩:=h;rw[List.modify_succ_cons];exact⟨x,rs',rfl,e1,e2,x0,xs,fB.mod hf q⟩
structure RI(a₀:PA)(kd:SortKind)(r:Keyed->Nat)(st:SortSt)(lo:Nat)(bY:List Keyed):Prop where
 sb:SB a₀ kd st
 ex:∃rs,(arrOf st).toList=rs.flatten++bY/\rs.flatten.length=lo/\fB r (pendingOf st).toList rs 0
theorem Bl{α:Type}{l:List α}{i:Nat}(h:i+1<l.length):∃p1 e1 e2 p2,l=p1++e1::e2::p2/\p1.length=i:=by
 refine⟨l.take i,l[i],l[i+1],l.drop (i+2),?_,by simp;omega⟩;have e1:=q0T (l:=l) (i:=i) ⋯;have e2:=q0T (l:=l) (i:=i+1) ⋯;rw[show i+2=i+1+1 by omega,<- e2,<- e1,List.take_append_drop]
theorem lv(C:Cmp prog w A J a₀ kd r){st:SortSt}{lo i:Nat}{bY:List Keyed}(R:RI a₀ kd r st lo bY)(hi:i+1<(pendingOf st).size){Q:Bool->SortSt->Prop}
  (h:∀st',RI a₀ kd r st' lo bY->(pendingOf st').size+1=(pendingOf st).size->Q true st'):fm (model prog w) A E J (mergeAt' i) Q st:=by
 obtain⟨B,rs,S,O,hr⟩:=R;obtain⟨p1,U,T,p2,d,rfl⟩:=Bl (l:=(pendingOf st).toList) (i:=i) (by simpa using hi);rw[d]at hr;obtain⟨c,r2,rfl,h1,x,r3,rfl,j,p,k,I,y,b,rfl,g,o,D,G,n⟩:=fB.app.mp hr;obtain⟨s1,n1,w1⟩:=U;obtain⟨s2,n2,w2⟩:=T;dsimp only at j p g o;rw[Nat.zero_add]at j g;subst j;subst p;subst g;subst o
 refine yK C B (u:=c.flatten) (x:=x) (y:=y) (v:=b.flatten++bY) d (by rw[S];simp) k D I G λst' z Z m Y a q=>h st' ⟨Z,c++z::b,by rw[Y];simp,?_,?_⟩ ?_
 ·have:=a.length_eq
  simp at this O ⊢;omega
 ·rw[m]
  refine fB.app.mpr ⟨c,z::b,rfl,h1,z,b,rfl,by simp,by have:=a.length_eq;simp at this ⊢;omega,?_,q,?_⟩
  ·intro e
   rw[e]at a;have:=a.length_eq;have:=List.length_pos_iff.mpr k;simp at *;omega
  ·have:=a.length_eq
   rw[Ki]at this;rw[this,<- Nat.add_assoc,Nat.zero_add];rw[Nat.zero_add]at n;exact n
 ·have M:=q0R List.length m
  have L:=q0R List.length d;simp at M L;omega
theorem oU(C:Cmp prog w A J a₀ kd r){st:SortSt}{Q:Unit->SortSt->Prop}(B:SB a₀ kd st)(hp:pendingOf st=#[])(h1:1<=a₀.size)
  (h:∀st',SB a₀ kd st'->(arrOf st').toList.Pairwise (gP r)->Q () st'):fm (model prog w) A E J sortRuns' Q st:=by
 rw[sortRuns'_eq];refine az (gD ?_);dsimp only;rw[B.size];generalize minRun' a₀.size a₀.size 0=mr;refine az (bV (eD (I:=λx c st'=>∃j,c=(none,j)/\x<=j/\j<=a₀.size/\∃bY,RI a₀ kd r st' j bY) (Q:=λc st'=>c=(none,a₀.size)/\∃bY,RI a₀ kd r st' a₀.size bY) ?s ?e ?i) ?p)
 case i=>exact⟨0,rfl,⋯,⋯,(arrOf st).toList,B,[],by simp,rfl,by rw[hp];rfl⟩
 case e=>
  rintro c st' ⟨j,rfl,h2,h3,R⟩;have:j=a₀.size:=by omega
  subst this;exact⟨rfl,R⟩
 case s=>
  rintro x c st' _ hx ⟨j,rfl,h2,h3,bY,R⟩;dsimp only
  by_cases hg:j≥a₀.size
  ·rw[q07 hg]
   have:j=a₀.size:=by omega
   subst this;exact aC ⟨rfl,bY,R⟩
  ·rw[q06 hg]
   refine az (wU C R.sb ⋯ ⋯ λm g B2 m1 m2 hu=>?_);dsimp only
   -- with a run of n from j on: merges,and the run is put behind the others
   have start:∀n d,KB a₀ kd j st' d->1<=n->n<=a₀.size-j->Up r (arrOf d) j n->∃y v,RI a₀ kd r d j (y++v)/\y.length=n/\y≠[]/\y.Pairwise (gP r):=by
    intro n d L O M k;obtain⟨_,u,D,l,hr⟩:=R;obtain⟨y,v,e,S,o⟩:=L.split D l ⋯ k;refine⟨y,v,⟨L.sb,u,e,l,by rw[L.pe];exact hr⟩,S,?_,o⟩;intro q;subst q;simp at S;omega
   have push:∀n d y v,1<=n->n<=a₀.size-j->RI a₀ kd r d j (y++v)->y.length=n->y≠[]->y.Pairwise (gP r) ->
     ∃lo',((none,j+n):Option Unit×Nat)=(none,lo')/\x+1<=lo'/\lo'<=a₀.size/\∃bY,RI a₀ kd r (setPending d ((pendingOf d).push (j,n,0))) lo' bY:=by
    intro n d y v O M T S U o;obtain⟨L,u,D,l,hr⟩:=T;refine⟨j+n,rfl,⋯,⋯,v,⟨L.perm,L.kind,L.failed⟩,u++[y],?_,?_,?_⟩
    ·show(arrOf d).toList=_
     rw[D];simp
    ·simp at l ⊢;omega
    ·show fB r ((pendingOf d).push (j,n,0)).toList _ _
     rw[Array.toList_push];exact fB.app.mpr ⟨u,[y],rfl,hr,y,[],rfl,by show j=0+_;rw[l];omega,S.symm,U,o,rfl⟩
   by_cases a0:m<mr
   ·rw[q07 a0]
    refine az (jR λ_ jj=>wpAny_rule ⟨jj,?_⟩);refine az (FZ C B2 (n:=min (a₀.size-j) mr) ⋯ ⋯ hu λd L k=>?_);rw[q06 (by decide)];have O:1<=min (a₀.size-j) mr:=by omega
    have M:min (a₀.size-j) mr<=a₀.size-j:=by omega
    generalize min (a₀.size-j) mr=n at O M k ⊢;obtain⟨y,v,T,S,U,o⟩:=start n d L O M k;refine az (gD ?_);cases hb:(pendingOf d).back? with
    |none=>
     dsimp only;exact az (c5 (aC (push n d y v O M T S U o)))
    |some e=>
     obtain⟨s1,l1,w1⟩:=e;dsimp only;refine az (bV (eD (I:=λ_ c b=>c=(none,())/\RI a₀ kd r b j (y++v)) (Q:=λc b=>c=(none,())/\RI a₀ kd r b j (y++v)) ?_ (λ_ _ q=>q) ⟨rfl,T⟩) ?_)
     ·rintro z c b _ _ ⟨rfl,G⟩
      refine az (gD ?_)
      by_cases hz:(pendingOf b).size>1
      ·rw[q07 hz]
       have Y:(pendingOf b).size-2<(pendingOf b).size:=by omega
       rw[getElem?_pos (pendingOf b) _ Y];generalize(pendingOf b)[(pendingOf b).size-2]=e;obtain⟨f1,f2,f3⟩:=e;dsimp only
       split
       ·exact aC ⟨rfl,G⟩
       ·refine az (lv C G ⋯ λa1 R5 _=>?_)
        rw[q06 (by decide)];exact aC ⟨rfl,R5⟩
      ·rw[q06 hz];exact aC ⟨rfl,G⟩
     ·rintro c b ⟨rfl,G⟩
      dsimp only;refine az (c5 (az (c5 (aC (push n _ y v O M ?_ S U o)))));obtain⟨B4,u,D,l,hr⟩:=G;exact⟨⟨B4.perm,B4.kind,B4.failed⟩,u,D,l,by
       show fB r (Array.modify _ _ _).toList _ _;rw[Array.toList_modify];refine fB.mod ?_ hr;exact λe=>⟨rfl,rfl⟩⟩
   ·rw[q06 a0]
    clear a0
    revert hu m2 m1 B2;revert g m
    intro n d L O M k;obtain⟨y,v,T,S,U,o⟩:=start n d L O M k;refine az (gD ?_);cases hb:(pendingOf d).back? with
    |none=>
     dsimp only;exact az (c5 (aC (push n d y v O M T S U o)))
    |some e=>
     obtain⟨s1,l1,w1⟩:=e;dsimp only;refine az (bV (eD (I:=λ_ c b=>c=(none,())/\RI a₀ kd r b j (y++v)) (Q:=λc b=>c=(none,())/\RI a₀ kd r b j (y++v)) ?_ (λ_ _ q=>q) ⟨rfl,T⟩) ?_)
     ·rintro z c b _ _ ⟨rfl,G⟩
      refine az (gD ?_)
      by_cases hz:(pendingOf b).size>1
      ·rw[q07 hz]
       have Y:(pendingOf b).size-2<(pendingOf b).size:=by omega
       rw[getElem?_pos (pendingOf b) _ Y];generalize(pendingOf b)[(pendingOf b).size-2]=e;obtain⟨f1,f2,f3⟩:=e;dsimp only
       split
       ·exact aC ⟨rfl,G⟩
       ·refine az (lv C G ⋯ λa1 R5 _=>?_)
        rw[q06 (by decide)];exact aC ⟨rfl,R5⟩
      ·rw[q06 hz];exact aC ⟨rfl,G⟩
     ·rintro c b ⟨rfl,G⟩
      dsimp only;refine az (c5 (az (c5 (aC (push n _ y v O M ?_ S U o)))));obtain⟨B4,u,D,l,hr⟩:=G;exact⟨⟨B4.perm,B4.kind,B4.failed⟩,u,D,l,by
       show fB r (Array.modify _ _ _).toList _ _;rw[Array.toList_modify];refine fB.mod ?_ hr;exact λe=>⟨rfl,rfl⟩⟩
 case p=>
  rintro c st' ⟨rfl,bY,R⟩;dsimp only;have pz:(pendingOf st').size<=a₀.size:=by
   obtain⟨_,u,_,l,hr⟩:=R;have:=hr.many;simp at this l;omega
  refine az (bV (eD (I:=λx c g=>c=(none,())/\RI a₀ kd r g a₀.size bY/\(pendingOf g).size+x<=a₀.size\/c=(none,())/\RI a₀ kd r g a₀.size bY/\(pendingOf g).size<=1)
   (Q:=λc g=>c=(none,())/\RI a₀ kd r g a₀.size bY/\(pendingOf g).size<=1) ?s2 ?e2 (.inl ⟨rfl,R,pz⟩)) ?p2)
  case e2=>
   rintro c g (⟨rfl,R2,q⟩ | ⟨rfl,R2,q⟩)
   ·exact⟨rfl,R2,⋯⟩
   ·exact⟨rfl,R2,q⟩
  case s2=>
   intro x c g _ hx hI;have hc:c=(none,()):=by rcases hI with q | q<;>exact q.1
   have R2:RI a₀ kd r g a₀.size bY:=by rcases hI with q | q<;>exact q.2.1
   refine az (gD ?_)
   by_cases h2:(pendingOf g).size<=1
   ·rw[q07 h2];exact aC ⟨rfl,R2,h2⟩
   ·rw[q06 h2]
    have q:(pendingOf g).size+x<=a₀.size:=by
     rcases hI with q | q
     ·exact q.2.2
     ·exact q0Q q.2.2 h2
    refine az (lv C R2 ?_ λd T q3=>?_)
    ·repeat' split
     all_goals omega
    ·rw[q06 (by decide)]
     exact aC (.inl ⟨rfl,T,⋯⟩)
  case p2=>
   rintro c g ⟨rfl,R2,q⟩;refine aC (h g R2.sb ?_);obtain⟨B2,u,D,l,hr⟩:=R2;have lz:(arrOf g).toList.length=a₀.size:=by simpa using B2.size
   have r0:bY=[]:=by
    have:=q0R List.length D;rw[Ki]at this;exact KH.mp ⋯
   subst r0;rw[Kv]at D;rw[D];cases Z:(pendingOf g).toList with
   |nil=>rw[Z]at hr;cases(show u=[] from hr);exact .nil
   |cons e p=>
    rw[Z]at hr;obtain⟨y,a2,rfl,_,_,_,o,q'⟩:=hr;have:p=[]:=by
     have:=q0R List.length Z;exact KH.mp (by simp at this;omega)
    subst this;cases(show a2=[] from q')
    simpa using o
end
def rk(O:KeyOrd)(f:Keyed->O.α)(l:List Keyed)(p:Keyed):Nat:=l.countP λq=>O.blt (f q) (f p)
theorem uV{α:Type}{f g:α->Bool}:∀{l:List α},(∀x,x∈l->f x=true->g x=true)->(∃x,x∈l/\f x=false/\g x=true)->l.countP f<l.countP g
 | [],_,h=>by obtain⟨x,hx,_⟩:=h;exact nomatch hx
 |x::l,h,⟨y,hy,e1,e2⟩=>by
  rw[List.countP_cons,List.countP_cons];have le:l.countP f<=l.countP g:=List.countP_mono_left λx hx=>h x (Kc _ hx);rcases Kb.mp hy with rfl | hy
  ·rw[e1,e2];simp;omega
  ·have:=uV (f:=f) (g:=g) (l:=l) (λx hx=>h x (Kc _ hx)) ⟨y,hy,e1,e2⟩
   have:=h x (q0B ..);cases hf:f x<;>cases hg:g x<;>simp_all<;>omega
theorem rk_lt{O:KeyOrd}{f:Keyed->O.α}{l:List Keyed}{x y:Keyed}(hx:x∈l):O.blt (f x) (f y)=decide (rk O f l x<rk O f l y):=by
 cases h:O.blt (f x) (f y) with
 |true=>
  refine(q09 ?_).symm;exact uV (λz _ a=>O.trans _ _ _ a h) ⟨x,hx,O.irrefl _,h⟩
 |false=>
  refine(q08 (Nat.not_lt.mpr ?_)).symm;refine List.countP_mono_left λz _ a=>?_;rcases O.negTrans _ (f x) _ a with q | q
  ·exact q
  ·rw[h]at q;exact q0Q q (by decide)
theorem FW{O:KeyOrd}{f:Keyed->O.α}{l:List Keyed}{x y:Keyed}(hy:y∈l)(h:rk O f l x<=rk O f l y):O.blt (f y) (f x)=false:=by
 rw[rk_lt (f:=f) (l:=l) hy];exact q08 (Nat.not_lt.mpr h)
theorem xH{h:Heap}{a:Addr}{vs:Array Value}{n:Nat}(ho:h.get? a=some (seqObj "list" vs n)):∃e1,(h.update a (Obj.mapSeq λ_=>#[])).get? a=some (seqObj "list" #[] e1):=⟨_,get?_update_seq ho _⟩
def sort1(h:Heap)(a:Addr)(vs:K2):Heap:=((h.update a (Obj.mapSeq λ_=>#[])).push (seqObj "tuple" vs.toArray 0)).push (seqObj "list" #[] 0)
section
variable {prog:K6}{w:K9}{A:K8}{E:KW}{s:K1}
theorem zu{a:Addr}{vs:K2}{n:Nat}{P:Fin->Shared->Prop}{kd:SortKind}{r:Keyed->Nat}(ho:s.heap.get? a=some (seqObj "list" vs.toArray n))(hz:vs.length<=sizeLine)
  (hkk:2<=vs.length->∀{Q:SortKind->Shared->Prop},Q kd {s with heap:=sort1 s.heap a vs}->wpAny (model prog w) A (keyKind' vs.toArray) Q E {s with heap:=sort1 s.heap a vs})
  (C:2<=vs.length->Cmp prog w A (· = {s with heap:=sort1 s.heap a vs}) (pairsOf vs) kd r)
  (h:∀ps:List Keyed,ps.Perm (vs.zip vs)->ps.Pairwise (gP r)->P (.done (.ret .none)) {s with heap:=sortedHeap s.heap a vs (ps.map (·.2)).toArray}) :
  wpAny (model prog w) A (Builtin.«list.sort» ⟨[.ref a],[]⟩) P E s:=by
 rw[list_sort_plain];refine q04 (listItems_at ho rfl (q04 (listUpdate_at ho rfl ?_)));obtain⟨o,i⟩:=xH ho;refine q04 (seqEpoch_at i rfl (q04 (wpAny_newTuple (q04 (wpAny_newList (q0Y ?_))))));have c:(sort1 s.heap a vs).get? a=some (seqObj "list" #[] o):=by
  exact JY _ (JY _ i)
 show wpAny (model prog w) A _ P E {s with heap:=sort1 s.heap a vs};dsimp only;have l:vs.toArray.size=vs.length:=by simp
 have fin:∀d:PA,d.toList.Perm (pairsOf vs).toList->d.toList.Pairwise (gP r)->P (.done (.ret .none)) {s with heap:=sortedHeap s.heap a vs (d.map (·.2))}:=by
  intro d m g;have:=h d.toList (by rw[<- pairsOf_toList];exact m) g
  rwa [show(d.toList.map (·.2)).toArray=d.map (·.2) by rw[<- Array.toList_map]]at this
 by_cases h2:(vs.toArray).size<2
 ·rw[q07 h2,q07 h2]
  refine q04 (q05 ?_);rw[StateT.run_pure];refine q04 (q05 ?_);dsimp only;refine q04 (seqEpoch_at c rfl (q04 (listUpdate_at c rfl ?_ (hsz2:=by rw[Array.size_map];show(pairsOf vs).size<=_;rw[pairsOf_size,q0W];omega))));simp only[bne_self_eq_false,q0a,if_false];refine q05 (fin (vs.toArray.zip vs.toArray) (List.Perm.refl _) ?_);show(pairsOf vs).toList.Pairwise _;rw[pairsOf_toList]
  match vs,l,h2 with
  | [],_,_=>exact .nil
  | [v],_,_=>exact List.pairwise_singleton _ _
  |_::_::_,_,h2=>simp at h2;omega
 ·rw[q06 h2,q06 h2]
  refine q04 (hkk ⋯ ?_);refine q04 (q0X (oU (a₀:=pairsOf vs) (kd:=kd) (r:=r) (C ⋯) (st:=SortSt.mk' kd (vs.toArray.zip vs.toArray) #[] 7 none)
   (Q:=λ_ b=>SB (pairsOf vs) kd b/\(arrOf b).toList.Pairwise (gP r)) ⟨List.Perm.refl _,rfl,rfl⟩ rfl (by rw[pairsOf_size];omega) (λb k j=>⟨k,j⟩) _ rfl) ?_ λ_ _ e=>e)
  rintro⟨⟨⟩,b⟩ s' ⟨rfl,B,g⟩;dsimp only;refine q04 (seqEpoch_at c rfl (q04 (listUpdate_at c rfl ?_ (hsz2:=by refine Ks (Nat.le_of_eq ((Array.size_map ..).trans (B.size.trans (pairsOf_size _)))) ?_;omega))));rw[show failedOf b=none from B.failed];simp only[bne_self_eq_false,q0a,if_false];exact q05 (fin (arrOf b) B.perm g)
end
section
variable {prog:K6}{w:K9}{A:K8}{E:KW}{s s2:K1}
abbrev with1(s2:K1)(vs:K2):Heap:=s2.heap.push (seqObj "list" vs.toArray 0)
theorem sorted_call{v:Value}{vs:K2}{kd:SortKind}{r:Keyed->Nat}{Q:KW}
  (hc:∀{Q':List Value->Shared->Prop},Q' vs s2->wpAny (model prog w) A.in1 (collect v) Q' E s) (hz:vs.length<=sizeLine)
  (hkk:2<=vs.length->∀{Q:SortKind->Shared->Prop},Q kd {s2 with heap:=sort1 (with1 s2 vs) s2.heap.objs.size vs}->wpAny (model prog w) A.in1.in1 (keyKind' vs.toArray) Q E {s2 with heap:=sort1 (with1 s2 vs) s2.heap.objs.size vs})
  (C:2<=vs.length->Cmp prog w A.in1.in1 (· = {s2 with heap:=sort1 (with1 s2 vs) s2.heap.objs.size vs}) (pairsOf vs) kd r)
  (h:∀ps:List Keyed,ps.Perm (vs.zip vs)->ps.Pairwise (gP r)->Q (.ref s2.heap.objs.size) {s2 with heap:=sortedHeap (with1 s2 vs) s2.heap.objs.size vs (ps.map (·.2)).toArray}) :
  wpAny (model prog w) A (call (.builtin "sorted") [v]) Q E s:=by
 refine Calls.call_function_entry kind_sorted plain_sorted entry_sorted (args_sorted1 v) ?_;unfold Builtin.«sorted»;refine q04 (m:=checkCount "sorted" 1 1 _) (q05 ?_)
 refine q04 (hc (q04 (wpAny_newList ?_ (hsz:=by omega))));have a:(with1 s2 vs).get? s2.heap.objs.size=some (seqObj "list" vs.toArray 0):=J4 _ rfl;show wpAny _ _ _ _ _ {s2 with heap:=with1 s2 vs};refine q04 (q0Y (wpAny_call_entry slot_list_sort ⟨_,a,rfl⟩ entry_list_sort (zu (s:={s2 with heap:=with1 s2 vs}) a hz hkk C λps c b=>⟨_,rfl,?_⟩) (args_list_sort _)));exact q05 ⟨_,rfl,h ps c b⟩
theorem ranks_out{O:KeyOrd}{f:Keyed->O.α}{l ps:List Keyed}(hp:ps.Perm l)(h:ps.Pairwise (gP (rk O f l))):ps.Pairwise λp q=>O.blt (f q) (f p)=false:=by
 have a:∀p,p∈ps->p∈l:=λp c=>hp.mem_iff.mp c;clear hp
 induction ps with
 |nil=>exact .nil
 |cons p ps ih=>
  rw[List.pairwise_cons]at h ⊢;exact⟨λq b=>FW (a q (Kc _ b)) (h.1 q b),ih h.2 λq b=>a q (Kc _ b)⟩
theorem zip_map2{vs:K2}{ps:List Keyed}(hp:ps.Perm (vs.zip vs)):(ps.map (·.2)).Perm vs/\ps.map (·.2)=ps.map (·.1):=by
 refine⟨(hp.map _).trans (by rw[List.map_snd_zip (Kj _)]),q0K λp a=>((mem_zip_self (hp.mem_iff.mp a)).1).symm⟩
end
end TS
namespace TS
open PySem PyProof.Rows PySem.MeetsSeq PySem.MeetsSeq3
open AutoSeq1 (wpAny_loadPart')
abbrev F4(s:K1)(a:Addr)(xs:Array Value)(n:Nat)(dd:La)(sl:Array (Option Value)):Prop:=s.heap.get? a=some {cls:=.type "list",dict:=dd,data:=.seq xs n,slots:=sl}
def ka:List Str->List Str->Bool
 | [],[]=>false
 | [],_::_=>true
 |_::_,[]=>false
 |x::xs,y::ys=>if x==y then ka xs ys else decide (x.cps.toList<y.cps.toList)
section
variable {prog:K6}{w:K9}{A:K8}{E:KW}{s:K1}
theorem uv{x y:Str}{t u:Tok}{Q:KW}(h:Q (.bool (decide (x.cps.toList<y.cps.toList))) s):wpAny (model prog w) A (richCompare .Lt (.str x t) (.str y u)) Q E s:=
 wpAny_richCompare_same (typeIs_str s x t) (typeIs_str s y u) slot_str_lt (call_str_lt ⟨(λq=>nomatch q),h⟩)
end
set_option maxHeartbeats 1600000 in
theorem Ct(l b:Addr)(items items2:Array Value)(n n2:Nat)(dd dd2:La)(sl sl2:Array (Option Value))(k:Nat) :
  ∀(i:Nat) (ss ts:K7),ss.length+ts.length=k->i<=items.size->i<=items2.size->StrsAre (items.toList.drop i) ss->StrsAre (items2.toList.drop i) ts->Meets (Builtin.«list.__eq__.loop» ⟨[.ref l,.ref b,rawInt i,rawInt 0],[]⟩)
   (λA R s=>F4 s l items n dd sl/\F4 s b items2 n2 dd2 sl2 /\
    R (.ok (.ret (.bool (ka ss ts)))) s):=by
 induction k using Nat.strongRecOn with
 |_ k ih=>
 intro i ss ts T S J h1 h2 z w A R s h;obtain⟨hp,g,d,tk,os⟩:=s;obtain⟨o,p,h⟩:=h
 wp_walk using wpAny_loadPart' o,wpAny_loadPart' p
 have Y:((i:Nat):Int).toNat=i:=by simp
 rw[Y];have I:∀{xs:Array Value},xs.toList.drop i=[]->i<=xs.size->xs[i]?=none/\xs.size=i:=fun{xs} e q=>by
  have:=q0R List.length e;simp at this;exact⟨by simp;omega,⋯⟩
 have j:∀{xs:Array Value} {v:Value} {r:K2},xs.toList.drop i=v::r->xs[i]?=some v/\i<xs.size/\xs.toList.drop (i+1)=r:=fun{xs v r} e=>by
  have m:i<xs.toList.length:=by
   have:=q0R List.length e;simp at this ⊢;omega
  have q:=q0T (l:=xs.toList) m;rw[e]at q;obtain⟨O,M⟩:=List.cons.inj q;exact⟨by rw[<- q0G,JW m,O],by simpa using m,M.symm⟩
 generalize C:items.toList.drop i=v1 at h1;generalize c:items2.toList.drop i=v2 at h2;cases h1 with
 |nil=>
  obtain⟨D,L⟩:=I C S;rw[D];cases h2 with
  |nil=>
   obtain⟨a,G⟩:=I c J;rw[a]
   wp_walk using wpAny_loadPart' o,wpAny_loadPart' p
   show R (.ok (.ret (.bool (decide (items.size<items2.size))))) _;rw[q08 ⋯];exact h
  |cons y u h2'=>
   obtain⟨a,G,_⟩:=j c;rw[a]
   wp_walk using wpAny_loadPart' o,wpAny_loadPart' p
   show R (.ok (.ret (.bool (decide (items.size<items2.size))))) _;rw[q09 ⋯];exact h
 |cons x t h1'=>
  obtain⟨D,L,d1⟩:=j C;rw[D];cases h2 with
  |nil=>
   obtain⟨a,G⟩:=I c J;rw[a]
   wp_walk using wpAny_loadPart' o,wpAny_loadPart' p
   show R (.ok (.ret (.bool (decide (items.size<items2.size))))) _;rw[q08 ⋯];exact h
  |cons y u h2'=>
   obtain⟨a,G,Z⟩:=j c;rw[a];refine q04 (eqBool_str ?_);unfold ka at h;cases B:x==y with
   |true=>
    rw[B,q07 rfl]at h
    wp_walk
    have U:((i:Int)+1)=((i+1:Nat):Int):=by push_cast;rfl
    rw[U];exact⟨plainId_quiet plain_eq_loop _,codeAny_builtin entry_eq_loop (by
     rw[Around.under_plainId plain_eq_loop _];exact ih _ (by rw[<- T];simp;omega) (i+1) _ _ rfl ⋯ ⋯ (by rw[d1];exact h1') (by rw[Z];exact h2') z w A R _ ⟨o,p,h⟩)⟩
   |false=>
    rw[B,q06 (by decide)]at h
    wp_walk using wpAny_loadPart' o,wpAny_loadPart' p
    rw[D,a];exact q04 (uv (q05 h))
theorem q9(l b:Addr)(items items2:Array Value)(n n2:Nat)(dd dd2:La)(sl sl2:Array (Option Value))(ss ts:K7)(h1:StrsAre items.toList ss)(h2:StrsAre items2.toList ts) :
  Meets (Builtin.«list.__lt__» ⟨[.ref l,.ref b],[]⟩)
   (λA R s=>F4 s l items n dd sl/\F4 s b items2 n2 dd2 sl2 /\
    R (.ok (.ret (.bool (ka ss ts)))) s):=by
 intro a w A R s h;obtain⟨hp,g,d,tk,os⟩:=s;obtain⟨c,e,h⟩:=h
 have f3:=AutoSeq1.sub_list_list
 wp_walk using wpAny_loadPart' c,wpAny_loadPart' e
 exact⟨plainId_quiet plain_eq_loop _,codeAny_builtin entry_eq_loop (by
  rw[Around.under_plainId plain_eq_loop _];exact Ct l b items items2 n n2 dd dd2 sl sl2 _ 0 ss ts rfl (Kk _) (Kk _) h1 h2 a w A R _ ⟨c,e,h⟩)⟩
abbrev cp(x:Str):List Nat:=x.cps.toList
theorem ER{x y:Str}(h:cp x=cp y):x=y:=by
 cases x;cases y;exact q0R _ (Array.toList_inj.mp h)
abbrev ks(l:K7):List (List Nat):=l.map cp
theorem rB:∀(l m:K7),ka l m=decide (ks l<ks m)
 | [],[]=>by simp[ka,List.lt_irrefl]
 | [],_::_=>by simp[ka]
 |_::_,[]=>by simp[ka]
 |x::l,y::m=>by
  unfold ka;have e:(ks (x::l)<ks (y::m))↔(cp x<cp y\/cp x=cp y/\ks l<ks m):=List.cons_lt_cons_iff
  by_cases h:x=y
  ·subst h
   rw[q07 (beq_self_eq_true x),rB l m];refine decide_eq_decide.mpr (e.trans ⟨λq=>?_,λq=>.inr ⟨rfl,q⟩⟩).symm;rcases q with q | q
   ·exact q0Q q (List.lt_irrefl _)
   ·exact q.2
  ·rw[q06 (by simpa using h)]
   refine decide_eq_decide.mpr (e.trans ⟨λq=>?_,λq=>.inl q⟩).symm;rcases q with q | q
   ·exact q
   ·exact q0Q (ER q.1) h
@[reducible] def HG:KeyOrd where
 α:=List (List Nat)
 blt a b:=decide (a<b)
 irrefl x:=q08 (List.lt_irrefl x)
 trans x y z p q:=q09 (List.lt_trans (of_decide_eq_true p) (of_decide_eq_true q))
 negTrans a b c h:=by
  simp only[q0b]at *
  by_cases hab:a<b
  ·exact .inl hab
  ·exact .inr (List.lt_of_le_of_lt (List.not_lt.mp hab) h)
 total x y p q:=List.le_antisymm (List.not_lt.mp (of_decide_eq_false q)) (List.not_lt.mp (of_decide_eq_false p))
@[reducible] def ordI:KeyOrd where
 α:=Int×List (List Nat)
 blt a b:=decide (a.1<b.1\/a.1=b.1/\a.2<b.2)
 irrefl a:=by simp[List.lt_irrefl]
 trans a b c h1 h2:=by
  simp only[q0b]at *;rcases h1 with h1 | ⟨h1,h1'⟩<;>rcases h2 with h2 | ⟨h2,h2'⟩
  ·exact .inl ⋯
  ·exact .inl ⋯
  ·exact .inl ⋯
  ·exact .inr ⟨⋯,List.lt_trans h1' h2'⟩
 negTrans a b c h:=by
  simp only[q0b]at *
  by_cases h1:a.1<b.1
  ·exact .inl (.inl h1)
  ·by_cases h2:b.1<c.1
   ·exact .inr (.inl h2)
   ·rcases h with h | ⟨h,h'⟩
    ·omega
    ·by_cases hab:a.2<b.2
     ·exact .inl (.inr ⟨⋯,hab⟩)
     ·exact .inr (.inr ⟨⋯,List.lt_of_le_of_lt (List.not_lt.mp hab) h'⟩)
 total a b h1 h2:=by
  simp only[decide_eq_false_iff_not]at *;have e:a.1=b.1:=by
   have q1:¬ a.1<b.1:=λq=>h1 (.inl q);have q2:¬ b.1<a.1:=λq=>h2 (.inl q);omega
  have e2:a.2=b.2:=List.le_antisymm (List.not_lt.mp λq=>h2 (.inr ⟨e.symm,q⟩)) (List.not_lt.mp λq=>h1 (.inr ⟨e,q⟩));exact Prod.ext e e2
section
variable {prog:K6}{w:K9}{A:K8}{E:KW}{s:K1}
theorem mZ:∀{vs:K2} {ss:K7},StrsAre vs ss->vs.length=ss.length
 |_,_,.nil=>rfl
 |_,_,.cons x t h=>by simp[mZ h]
theorem qX:∀{vs:K2} {ss:K7},StrsAre vs ss->∀j (h:j<vs.length),∃t,vs[j]=.str (ss.getD j ⟨#[]⟩) t
 |_,_,.cons x t h,0,_=>⟨t,rfl⟩
 |_,_,.cons x t h,j+1,hj=>by
  obtain⟨t',e⟩:=qX h j (by simpa using hj);exact⟨t',by simpa using e⟩
theorem Bj{l b:Addr}{xs ys:Array Value}{ss ts:K7}(hl:s.heap.IsList l xs)(hb:s.heap.IsList b ys)(h1:StrsAre xs.toList ss)(h2:StrsAre ys.toList ts)(hu:A.units<cLine) :
  SeqAt.EqAt A s (.ref l) (.ref b) (decide (ss=ts)):=by
 by_cases d:l=b
 ·subst d
  have:xs=ys:=by
   obtain⟨o,z,_,n,B⟩:=hl;obtain⟨o',c,_,n',g⟩:=hb;rw[z]at c;cases c
   rw[B]at g;injection g
  subst this;have:ss=ts:=by rw[<- h1.strs,<- h2.strs]
  rw[q09 this];exact SeqAt.EqAt.same _
 ·refine SeqAt.EqAt.of_refs d ?_
  have p:=mZ h1;have x:=mZ h2;simp at p x
  by_cases m:xs.size=ys.size
  ·have q:=SeqAt.RcAt.lists (A:=A) (e:=λj=>ss.getD j ⟨#[]⟩==ts.getD j ⟨#[]⟩) hl hb m hu λj k i=>by
    obtain⟨t,v⟩:=qX h1 j (by simpa using k);obtain⟨u,r⟩:=qX h2 j (by simpa using i);rw[Array.getElem_toList]at v r;rw[v,r];exact λprog w E Q y=>eqBool_str y
   have e:((List.range xs.size).all λj=>ss.getD j ⟨#[]⟩==ts.getD j ⟨#[]⟩)=decide (ss=ts):=by
    by_cases a:ss=ts
    ·subst a;simp
    ·rw[q08 a]
     refine Bool.eq_false_iff.mpr λq=>a ?_;refine List.ext_getElem ⋯ λj k i=>?_;have:=KJ.mp q j (List.mem_range.mpr ⋯);rw[q0A,q0A,JW k,JW i,q0L,q0L]at this;exact eq_of_beq this
   rw[e]at q;exact q
  ·have a:¬ ss=ts:=λq=>m (by rw[q]at p;omega)
   rw[q08 a];exact SeqAt.RcAt.lists_lengths hl hb (by simpa using m) hu
theorem BV{l b:Addr}{xs ys:Array Value}{ss ts:K7}{Q:KW}(hl:s.heap.IsList l xs)(hb:s.heap.IsList b ys)(h1:StrsAre xs.toList ss)(h2:StrsAre ys.toList ts)(hu:A.units<cLine)
  (h:Q (.bool (ka ss ts)) s):wpAny (model prog w) A (richCompare .Lt (.ref l) (.ref b)) Q E s:=by
 obtain⟨⟨cls,p,data,m⟩,i,k,n,j⟩:=id hl;obtain⟨⟨cls2,g,data2,e⟩,a,d,o,c⟩:=id hb;simp only at k j d c;subst k j d c;exact richCompare_meets_room (op:=.Lt) ⟨_,i,rfl⟩ ⟨_,a,rfl⟩ PySem.F.slot_list_lt PySem.F.entry_list_lt (PySem.F.args_list_lt_2 _ _) (q9 l b xs ys n o p g m e ss ts h1 h2)
  ⟨i,a,show Value.bool (ka ss ts)≠Value.notImplemented/\Q (.bool (ka ss ts)) s from⟨(λx=>nomatch x),h⟩⟩ hu
end
end TS
namespace TS
open PySem PyProof.Rows PySem.MeetsSeq PySem.MeetsSeq3 PySem.W
def D8(h:Heap)(v:Value)(ss:K7):Prop:=∃a o xs n,v=.ref a/\h.get? a=some o/\o.cls=.type "tuple"/\o.data=.seq xs n/\StrsAre xs.toList ss
def TupI(h:Heap)(v:Value)(k:Int×List Str):Prop:=∃a o n l ys t,v=.ref a/\h.get? a=some o/\o.cls=.type "tuple"/\o.data=.seq #[.int k.1 t,.ref l] n/\h.IsList l ys/\StrsAre ys.toList k.2
section
variable {prog:K6}{w:K9}{A:K8}{E:KW}{s:K1}
theorem B8{x y:Value}{k m:Int×List Str}{Q:Bool->Shared->Prop}(hu:A.units<cLine)(hx:TupI s.heap x k)(hy:TupI s.heap y m)(h:Q (decide (k.1<m.1\/k.1=m.1/\ks k.2<ks m.2)) s) :
  wpAny (model prog w) A (keyLt' (tuples' true) x y) Q E s:=by
 obtain⟨a,o,n,l,xs,t,rfl,r,_,v,j,h1⟩:=hx;obtain⟨a2,o2,n2,l2,ys,u,rfl,d,_,g,b,h2⟩:=hy;refine kat_lt r v d g (kat_cons (wpAny_eqBool_int ?_));cases e:k.1==m.1 with
 |false=>
  refine kat_no (oneLt_int ?_);have p:¬ k.1=m.1:=λq=>by rw[q]at e;simp at e
  rw[show decide (k.1<m.1\/k.1=m.1/\ks k.2<ks m.2)=decide (k.1<m.1) from decide_eq_decide.mpr ⟨λq=>q.elim id λq=>q0Q q.1 p,.inl⟩]at h;exact h
 |true=>
  have z:=eq_of_beq e;have i:Q (ka k.2 m.2) s:=by
   rw[rB];rw[show decide (k.1<m.1\/k.1=m.1/\ks k.2<ks m.2)=decide (ks k.2<ks m.2) from decide_eq_decide.mpr ⟨λq=>q.elim (λq=>by omega) And.right,λq=>.inr ⟨z,q⟩⟩]at h;exact h
  refine kat_yes (kat_cons (Bj j b h1 h2 hu prog w _ _ ?_))
  by_cases c:k.2=m.2
  ·rw[q09 c]
   refine kat_yes (kat_nil ?_);have:ka k.2 m.2=false:=by rw[c,rB];exact q08 (List.lt_irrefl _)
   rw[this]at i;exact i
  ·rw[q08 c]
   refine kat_no ?_;rw[oneLt'_eq];simp only[show((true&&(1:Nat)==0)=true)=False by simp,if_false];exact q04 (BV j b h1 h2 hu (wpAny_truthy_bool i))
def keyEnd(h:Heap)(a kS:Addr)(out:Array Value):Heap:=(h.update kS (Obj.mapSeq λ_=>#[])).update a (Obj.mapSeq λ_=>out)
theorem AK{a kS:Addr}{e e1:Nat}{keys:Array Value}{vs:K2}{st:SortSt}{P:Fin->Shared->Prop}(hka:a≠kS)(hk:s.heap.get? kS=some (seqObj "list" keys e))(ha:s.heap.get? a=some (seqObj "list" #[] e1))
  (hz:keys.size<=sizeLine) (hz2:(arrOf st).size<=sizeLine) (hf:failedOf st=none) (h:P (.done (.ret .none)) {s with heap:=keyEnd s.heap a kS ((arrOf st).map (·.2))}) :
  wpAny (model prog w) A (ksk_tail a false e1 (.ref kS) st) P E s:=by
 have b:(s.heap.update kS (Obj.mapSeq λ_=>(#[]:Array Value))).get? a=some (seqObj "list" #[] e1):=((Heap.SameBut.update s.heap kS (Obj.mapSeq λ_=>(#[]:Array Value))).2 a hka).trans ha;unfold ksk_tail;dsimp only;refine q04 (listUpdate_at hk rfl ?_ hz (Kk _));refine q04 (wpAny_letGo ?_);refine q04 (seqEpoch_at b rfl ?_);refine q04 (listUpdate_at b rfl ?_ (Kk _) (by rw[q06 (by decide),Array.size_map];exact Nat.le_succ_of_le hz2));rw[hf];simp only[bne_self_eq_false,q0a,if_false];exact q05 h
theorem Dd{a kS:Addr}{e e1:Nat}{keys:Array Value}{vs:K2}{P:Fin->Shared->Prop}(hka:a≠kS)(hk:s.heap.get? kS=some (seqObj "list" keys e))(ha:s.heap.get? a=some (seqObj "list" #[] e1))
  (hz:vs.length<=sizeLine) (hkz:keys.size=vs.length) {kd:SortKind} {r:Keyed->Nat} (hkk:2<=vs.length->∀{Q:SortKind->Shared->Prop},Q kd s->wpAny (model prog w) A (keyKind' keys) Q E s)
  (C:2<=vs.length->Cmp prog w A (· = s) (keys.zip vs.toArray) kd r)
  (h:∀ps:List Keyed,ps.Perm (keys.toList.zip vs)->ps.Pairwise (gP r)->P (.done (.ret .none)) {s with heap:=keyEnd s.heap a kS (ps.map (·.2)).toArray}) :
  wpAny (model prog w) A (ksk_end a false vs.toArray e1 (.ref kS) keys) P E s:=by
 have j:(keys.zip vs.toArray).toList=keys.toList.zip vs:=ksk_zip keys vs;have i:(keys.zip vs.toArray).size=vs.length:=by rw[Array.size_zip,hkz,J5,Nat.min_self]
 have fin:∀st:SortSt,(arrOf st).toList.Perm (keys.zip vs.toArray).toList->(arrOf st).toList.Pairwise (gP r)->failedOf st=none->wpAny (model prog w) A (ksk_tail a false e1 (.ref kS) st) P E s:=by
  intro st g c m;refine AK (vs:=vs) hka hk ha ⋯ (by have:=g.length_eq;simp at this;omega) m ?_;have:=h (arrOf st).toList (by rw[<- j];exact g) c
  rwa [show((arrOf st).toList.map (·.2)).toArray=(arrOf st).map (·.2) by rw[<- Array.toList_map]]at this
 have hs:vs.toArray.size=vs.length:=by simp
 unfold ksk_end;dsimp only;rw[q06 (by decide)]
 by_cases h2:vs.toArray.size<2
 ·rw[q07 h2,q07 h2]
  refine q04 (q05 ?_);rw[StateT.run_pure];refine q04 (q05 ?_);dsimp only;refine fin (SortSt.mk' general' (keys.zip vs.toArray) #[] 7 none) (List.Perm.refl _) ?_ rfl;have d:(keys.zip vs.toArray).toList.length<2:=by simp;omega
  show(keys.zip vs.toArray).toList.Pairwise _
  match(keys.zip vs.toArray).toList,d with
  | [],_=>exact .nil
  | [v],_=>exact List.pairwise_singleton _ _
  |_::_::_,d=>simp at d;omega
 ·rw[q06 h2,q06 h2]
  refine q04 (hkk ⋯ ?_);refine q04 (q0X (oU (a₀:=keys.zip vs.toArray) (kd:=kd) (r:=r) (C ⋯) (st:=SortSt.mk' kd (keys.zip vs.toArray) #[] 7 none)
   (Q:=λ_ b=>SB (keys.zip vs.toArray) kd b/\(arrOf b).toList.Pairwise (gP r)) ⟨List.Perm.refl _,rfl,rfl⟩ rfl (by rw[i];omega) (λb l k=>⟨l,k⟩) _ rfl) ?_ λ_ _ e=>e)
  rintro⟨⟨⟩,b⟩ s' ⟨rfl,B,c⟩;exact fin b B.perm c B.failed
theorem zS{a:Addr}{f:Value}{vs:K2}{n:Nat}{P:Fin->Shared->Prop}(ho:s.heap.get? a=some (seqObj "list" vs.toArray n))(hz:vs.length<=sizeLine)(I:Nat->Array Value->Shared->Prop){e1:Nat}
  (ho1:(s.heap.update a (Obj.mapSeq λ_=>(#[]:Array Value))).get? a=some (seqObj "list" #[] e1)) (h0:I 0 #[] {s with heap:=sort1 s.heap a vs})
  (hI:∀i kA s',I i kA s'->kA.size=i/\s'.heap.get? a=some (seqObj "list" #[] e1)/\∃e,s'.heap.get? (s.heap.objs.size+1)=some (seqObj "list" kA e))
  (step:∀i x kA s',vs[i]?=some x->I i kA s'->wpAny (model prog w) A (call f [x]) (λv s2=>(∃e,s2.heap.get? (s.heap.objs.size+1)=some (seqObj "list" kA e)) /\
   I (i+1) (kA.push v) {s2 with heap:=s2.heap.update (s.heap.objs.size+1) (Obj.mapSeq (·.push v))}) (λ_ _=>False) s')
  (fin:∀keys s',I vs.length keys s'->∃(kd:SortKind) (r:Keyed->Nat),(2<=vs.length->∀{Q:SortKind->Shared->Prop},Q kd s'->wpAny (model prog w) A (keyKind' keys) Q E s') /\
   (2<=vs.length->Cmp prog w A (· = s') (keys.zip vs.toArray) kd r) /\
   ∀ps:List Keyed,ps.Perm (keys.toList.zip vs)->ps.Pairwise (gP r)->P (.done (.ret .none)) {s' with heap:=keyEnd s'.heap a (s.heap.objs.size+1) (ps.map (·.2)).toArray}) :
  wpAny (model prog w) A (ksk_tree a f false) P E s:=by
 have o:a<s.heap.objs.size:=Km ho;unfold ksk_tree;refine q04 (listItems_at ho rfl (q04 (listUpdate_at ho rfl ?_)));refine q04 (seqEpoch_at ho1 rfl (q04 (wpAny_newTuple (q04 (wpAny_newList (q0Y ?_))))));show wpAny (model prog w) A _ P E {s with heap:=sort1 s.heap a vs};have y:((s.heap.update a (Obj.mapSeq λ_=>(#[]:Array Value))).push (seqObj "tuple" vs.toArray 0)).objs.size=s.heap.objs.size+1:=by rw[size_push',Heap.size_update]
 show wpAny (model prog w) A (ksk_rest a f false vs.toArray e1 (.ref ((s.heap.update a (Obj.mapSeq λ_=>(#[]:Array Value))).push (seqObj "tuple" vs.toArray 0)).objs.size)) P E _;rw[y];unfold ksk_rest;refine q04 (wpAny_rule ?_);rw[<- Array.forIn_toList];refine q04 (ksk_fold (λi s'=>∃kA,I i kA s') vs 0 _ ⟨#[],h0⟩ ?step ?done)
 case step=>
  rintro j x s' g ⟨kA,b⟩;simp only[Nat.zero_add]at b ⊢;have hj:j<vs.length:=(JX.mp g).1;obtain⟨d,_,_⟩:=hI _ _ _ b;refine q04 (wpAny_attempt (q0X (step j x kA s' g b) (λv s2 m=>?_) λ_ _ p=>p.elim));obtain⟨⟨e,l⟩,kH⟩:=m;dsimp only;refine q04 (listUpdate_at l rfl ?_ ⋯ (Ks (Nat.le_of_eq (Array.size_push ..)) ⋯));exact q05 ⟨rfl,_,kH⟩
 case done=>
  rintro s' ⟨kA,b⟩;rw[Nat.zero_add]at b;obtain⟨d,k,e,c⟩:=hI _ _ _ b;obtain⟨kd,r,u,f2,q⟩:=fin _ _ b;refine q04 (listItems_at c rfl ?_);exact Dd (Kf (Nat.lt_succ_of_lt o)) c k hz d u f2 q
end
theorem TupI.one{h:Heap}{v:Value}{k m:Int×List Str}(h1:TupI h v k)(h2:TupI h v m):k=m:=by
 obtain⟨a,o,n,l,ys,t,rfl,y,_,B,z,w⟩:=h1;obtain⟨a2,o2,n2,x,zs,u,e,d,_,b,j,r⟩:=h2;cases e;rw[y]at d;cases d
 rw[B]at b;have D:k.1=m.1:=by injection b with q;injection q with q;injection q with q _;injection q
 have C:l=x:=by injection b with q;injection q with q;injection q with _ q;injection q with q _;injection q
 subst C;obtain⟨o3,i,_,n3,p⟩:=z;obtain⟨o4,c,_,n4,g⟩:=j;rw[i]at c;cases c
 rw[p]at g;cases g
 exact Prod.ext D (by rw[<- w.strs,<- r.strs])
open Classical in
def keyI(h:Heap)(p:Keyed):Int×List (List Nat):=if q:∃k,TupI h p.1 k then(q.choose.1,ks q.choose.2) else(0,[])
theorem keyI_eq{h:Heap}{p:Keyed}{k:Int×List Str}(q:TupI h p.1 k):keyI h p=(k.1,ks k.2):=by
 have a:∃k,TupI h p.1 k:=⟨k,q⟩;unfold keyI;rw[dif_pos a,a.choose_spec.one q]
section
variable {prog:K6}{w:K9}{A:K8}{E:KW}{s:K1}
theorem cmp_I{a₀:PA}(hu:A.units<cLine)(h:∀p,p∈a₀.toList->∃k,TupI s.heap p.1 k):Cmp prog w A (· = s) a₀ (tuples' true) (rk ordI (keyI s.heap) a₀.toList):=by
 intro x c y d s' j;cases j;obtain⟨k,b⟩:=h x c;obtain⟨m,a⟩:=h y d;refine B8 hu b a ⟨rfl,?_⟩;rw[<- rk_lt (O:=ordI) (f:=keyI s.heap) (y:=y) c,keyI_eq b,keyI_eq a]
theorem kind_I{vs:K2}{Q:SortKind->Shared->Prop}(h:∀v,v∈vs->∃k,TupI s.heap v k)(h0:0<vs.length)(hq:Q (tuples' true) s):wpAny (model prog w) A (keyKind' vs.toArray) Q E s:=by
 have:∃fs,KatTups s.heap vs fs/\fs.length=vs.length/\∀v,v∈fs->∃x t,v=Value.int x t:=by
  clear h0 hq
  induction vs with
  |nil=>exact⟨[],trivial,rfl,λv b=>nomatch b⟩
  |cons v vs ih=>
   obtain⟨fs,t,l,q⟩:=ih λu hu=>h u (Kc _ hu);obtain⟨k,a,o,n,ll,ys,c,rfl,d,g,e,hl,hs⟩:=h v (q0B ..);refine⟨.int k.1 c::fs,KatTups.cons d g e rfl t,by simp[l],λu hu=>?_⟩;rcases Kb.mp hu with rfl | hu
   ·exact⟨_,_,rfl⟩
   ·exact q u hu
 obtain⟨fs,t,l,q⟩:=this;refine kat_kind (T:=.type "int") t ⋯ (λv b=>?_) (by rfl) hq;obtain⟨x,c,rfl⟩:=q v b;exact .now
end
end TS
namespace L2
open PySem PySem.Spec PyProof.Rows
theorem tJ{α β:Type}{f:α->β}{l l':List β}(h:l.Perm l'):∀m:List α,l'=m.map f->∃m':List α,m'.Perm m/\l=m'.map f:=by
 induction h with
 |nil=>intro m e;exact⟨m,List.Perm.refl _,e⟩
 |cons x _ ih=>
  intro m e;cases m with
  |nil=>exact nomatch e
  |cons y m=>
   obtain⟨d,c⟩:=List.cons.inj e;obtain⟨m',p,q⟩:=ih m c;exact⟨y::m',p.cons y,by rw[q,d];rfl⟩
 |swap x y l=>
  intro m e
  match m,e with
  |a::b::m,e=>
   obtain⟨d,c⟩:=List.cons.inj e;obtain⟨r,o⟩:=List.cons.inj c;exact⟨b::a::m,List.Perm.swap a b m,by rw[d,r,o];rfl⟩
 |trans _ _ ih1 ih2=>
  intro m e;obtain⟨m1,k,i⟩:=ih2 m e;obtain⟨n,j,g⟩:=ih1 m1 i;exact⟨n,j.trans k,g⟩
theorem yo{h:Heap}{a b:Addr}{vs:K2}{o:Obj}(hb:h.get? b=some o)(hne:b≠a):(TS.sort1 h a vs).get? b=some o:=by
 unfold TS.sort1;refine JY _ (JY _ ?_);rw[Heap.get?_update_ne _ _ _ _ hne];exact hb
abbrev Gv(s:K1)(its:K2):Shared:={s with heap:=(s.heap.push (seqObj "list" #[] 0)).update s.heap.objs.size (Obj.mapSeq (· ++ its.toArray))}
def Fk(K:KY)(H:Hp)(x:V)(k:Int×List Str):Prop:=∃a l,x=.ref a/\dt K H a [.int k.1,.ref l]/\aN K H l (k.2.map V.str)
section
variable {X:Cx}
theorem Inv.pair{pins:KZ}{σ:St}{H:Hp}{s:K1}(I:Inv X pins σ H s){x:V}{k:Int×List Str}{u:Value}(h:Fk X.K H x k)(r:bF x u):TS.TupI s.heap u k:=by
 obtain⟨a,l,rfl,e,i⟩:=h;obtain rfl:u=Value.ref a:=r;obtain⟨its,b,⟨o,g,m,n,j⟩,_⟩:=I.tuple e;obtain⟨js,c,d,_⟩:=I.list i;cases b with
 |cons q1 b=>
  cases b with
  |cons q2 b=>
   cases b;obtain⟨t,rfl⟩:=q1;obtain rfl:=q2;exact⟨a,o,n,l,_,t,rfl,g,m,j,d.isList,by simpa using hU c⟩
abbrev kI(k:Int×List Str):Int×List (List Nat):=(k.1,TS.ks k.2)
end
@[reducible] def FR:KeyOrd where
 α:=Int
 blt a b:=decide (a<b)
 irrefl a:=by simp
 trans a b c h1 h2:=by simp only[q0b]at *;omega
 negTrans a b c h:=by simp only[q0b]at *;omega
 total a b h1 h2:=by simp only[decide_eq_false_iff_not]at *;omega
theorem AZ{prog:K6}{w:K9}{A:K8}{J:Shared->Prop}{a₀:Array Keyed}(h0:IntKeys a₀):TS.Cmp prog w A J a₀ oneType' (TS.rk FR (λp=>numOf p.1) a₀.toList):=by
 intro x c y g s j;obtain⟨a,t,e⟩:=h0 x c;obtain⟨b,u,d⟩:=h0 y g;have:=TS.rk_lt (O:=FR) (f:=λp=>numOf p.1) (y:=y) c;rw[keyLt'_oneType,e,d];refine oneLt_int ⟨j,?_⟩;rw[<- this];show decide (a<b)=decide (numOf x.1<numOf y.1);rw[e,d];rfl
theorem xy:∀{ys:List Int} {us:K2},bp (ys.map V.int) us->IntsAre us ys
 | [],_,.nil=>.nil
 |y::ys,_,.cons ⟨t,e⟩ r=>by subst e;exact .cons y t (xy r)
theorem ou:∀{ys:List Int} {us:K2},IntsAre us ys->bp (ys.map V.int) us
 |_,_,.nil=>.nil
 |_,_,.cons x t h=>.cons ⟨t,rfl⟩ (ou h)
theorem Fd:∀{vs:K2} {ns:List Int},IntsAre vs ns->2<=vs.length->keyKind' vs.toArray=pure oneType'
 | [],_,_,h=>by simp at h
 | [_],_,_,h=>by simp at h
 |v₁::v₂::bY,_,hI,_=>keyKind_ints hI
section
variable {X:Cx}
def wo(K:KY):List V->Hp->VK->Prop:=λxs H Q=>∃p ys,xs=[.ref p]/\aN K H p (ys.map V.int) /\
 ∀zs:List Int,zs.Perm ys->zs.Pairwise (·<=·)->∀l,H l=none->Q (.ref l) (aD H l (.lst (zs.map V.int)))
theorem wR:eQ X (.builtin "sorted") (wo X.K):=by
 intro g s σ H xs us Q I r h;obtain⟨p,R,rfl,y,q⟩:=h;obtain⟨u,rfl,S⟩:=nB r;cases S;obtain⟨c,G,T,M⟩:=I.list y;have i:=G.length;rw[JZ]at i M;have j:=xy G;have C:((s.heap.push (seqObj "list" #[] 0)).update s.heap.objs.size (Obj.mapSeq (· ++ c.toArray))).objs.size=s.heap.objs.size+1:=by rw[Heap.size_update,size_push']
 refine TS.sorted_call (s2:=Gv s c) (vs:=c) (kd:=oneType') (λh'=>collect_list T.isList h' ⋯) ⋯ (λh2 {Q} y=>?_) (λ_=>AZ j.intKeys) λd m l=>?_
 ·rw[Fd j h2];exact q05 y
 ·obtain⟨k,D⟩:=TS.zip_map2 m
  have O:∀u,u∈d.map (·.2)->∃n t,u=Value.int n t:=λu U=>j.all u (k.mem_iff.mp U);have x:=intsAre_map _ O;have v:((d.map (·.2)).map numOf).Perm R:=(k.map numOf).trans (by rw[j.nums]);rw[pairsOf_toList]at l;have J:=TS.ranks_out m l;have L:((d.map (·.2)).map numOf).Pairwise (·<=·):=by
   rw[D,List.pairwise_map,List.pairwise_map];refine J.imp fun{a b} B=>?_;have:=of_decide_eq_false B;exact Int.not_lt.mp this
  generalize(d.map (·.2)).map numOf=zs at x v L;generalize d.map (·.2)=out at x ⊢;clear l J m k D O;show EP X g σ Q (.ref ((s.heap.push (seqObj "list" #[] 0)).update s.heap.objs.size (Obj.mapSeq (· ++ c.toArray))).objs.size) {s with heap:=sortedHeap (((s.heap.push (seqObj "list" #[] 0)).update s.heap.objs.size (Obj.mapSeq (· ++ c.toArray))).push (seqObj "list" c.toArray 0)) ((s.heap.push (seqObj "list" #[] 0)).update s.heap.objs.size (Obj.mapSeq (· ++ c.toArray))).objs.size c out.toArray};rw[C];obtain⟨e,Y⟩:=sortedAll_at s.heap c out.toArray;have z:(zs.map V.int).length<=sizeLine:=by rw[JZ,v.length_eq];exact M
  exact⟨.ref (s.heap.objs.size+1),_,I.laid (t':=s.toks) (h':=sortedAll s.heap c out.toArray) (λb o B=>sortedAll_old B) (Nat.le_succ _) (show ce X.prog X.w _ _ _ (.lst (zs.map V.int)) from⟨z,out,e,ou x,Y⟩),rfl,q zs v L _ (I.hok.fresh (Nat.le_succ _))⟩
end
end L2
namespace TS
open PySem PyProof.Rows PySem.W
section
variable {prog:K6}{w:K9}{A:K8}{E:KW}{s:K1}{T:String}{r d:Addr}{n:Nat}{P:Nat->Value->Prop}{OK:Heap->Prop}
theorem collect_src{Q:List Value->Shared->Prop}(K:KdlSrc prog w T r d n P OK)(hh:A.handled=none)(hok:OK s.heap)(hn:n<=sizeLine)
  (h:∀h' tk (acc':Array Value),(∀b o,s.heap.get? b=some o->h'.get? b=some o)->ItemsOf P acc' n->Q acc'.toList {s with heap:=h',toks:=tk}) :
  wpAny (model prog w) A (collect (.ref r)) Q E s:=by
 have l:=K.there _ hok;unfold collect;refine q04 (wpAny_runValue (codeAny_builtin entry_proto_collect' (show wpAny _ _ (do again (.builtin "list.__iadd__" ⟨[<- newList [],.ref r],[]⟩)) _ _ s from q04 (wpAny_newList (q05 ⟨Code.quiet_builtin _ (by decide +kernel),codeAny_builtin entry_list_iadd' ?_⟩)))));show wpAny _ _ (Builtin.List.listExtendWith (.ref s.heap.objs.size) (.ref r) (.ref s.heap.objs.size)) _ _ {s with heap:=s.heap.push (seqObj "list" #[] 0)};rw[Around.under_plainId (show plainId "list.__iadd__"=true by decide +kernel) _];refine q0X (kdl_extend (s:={s with heap:=s.heap.push (seqObj "list" #[] 0)}) (R:=λc i=>c=.ok (.ret (.ref s.heap.objs.size))/\∃h' tk acc' k,i={s with heap:=h',toks:=tk}/\(∀b o,s.heap.get? b=some o->h'.get? b=some o) /\
   h'.get? s.heap.objs.size=some {cls:=.type "list",dict:=none,data:=.seq acc' k,slots:=#[]}/\ItemsOf P acc' n) K hh (K.keep _ _ hok λb _ o e=>JY _ e) s.heap.objs.size (Nat.ne_of_gt l.1) (Nat.ne_of_gt l.2) (.ref s.heap.objs.size) 0 (J4 _ rfl)
  (λh' tk acc' k m j g=>⟨rfl,h',tk,acc',k,rfl,λb o q=>m b o (Kf (Km q)) (JY _ q),j,g⟩) hn) (λfin i p=>?_) λe i z=>?_
 ·have u:∀(c:Result) (i:K1),(c=.ok (.ret (.ref s.heap.objs.size))/\∃h' tk acc' k,i={s with heap:=h',toks:=tk}/\(∀b o,s.heap.get? b=some o->h'.get? b=some o) /\
    h'.get? s.heap.objs.size=some {cls:=.type "list",dict:=none,data:=.seq acc' k,slots:=#[]}/\ItemsOf P acc' n) ->
    match c with
    |Except.ok (Flow.ret v)=>wpAny (model prog w) A (match v with
      |Value.ref a=>do
       let o <- load a
       match o.data with
        |Data.seq xs epoch=>pure xs.toList
        |x=>unsupported "internal:collect"
      |x=>unsupported "internal:collect") Q E i
    |Except.ok a=>False
    |Except.error e=>E e i:=by
   rintro c i ⟨rfl,h',tk,acc',k,rfl,m,j,g⟩;exact q04 (wpAny_load j (q05 (h h' tk acc' m g)))
  cases fin with
  |done f=>exact u _ _ p
  |again k=>exact⟨p.1,codeAny_mono p.2 λc y hr=>u c y hr⟩
 ·exact nomatch z.1
end
section
variable {prog:K6}{w:K9}{A:K8}{E:KW}{s:K1}
def KeyRun(prog:K6)(w:K9)(A:K8)(E:KW)(q:Addr)(Q:KW)(vs:K2)(s2:K1):Prop:=
 vs.length<=sizeLine/\∀e1,((with1 s2 vs).update s2.heap.objs.size (Obj.mapSeq λ_=>(#[]:Array Value))).get? s2.heap.objs.size=some (seqObj "list" #[] e1)->∀kS,kS=(with1 s2 vs).objs.size+1 ->
   ∃(I:Nat->Array Value->Shared->Prop),I 0 #[] {s2 with heap:=sort1 (with1 s2 vs) s2.heap.objs.size vs} /\
  (∀i kA s',I i kA s'->kA.size=i/\s'.heap.get? s2.heap.objs.size=some (seqObj "list" #[] e1)/\∃e,s'.heap.get? kS=some (seqObj "list" kA e)) /\
  (∀i x kA s',vs[i]?=some x->I i kA s'->wpAny (model prog w) A.in1.in1 (call (.ref q) [x]) (λv s3=>(∃e,s3.heap.get? kS=some (seqObj "list" kA e))/\I (i+1) (kA.push v) {s3 with heap:=s3.heap.update kS (Obj.mapSeq (·.push v))}) (λ_ _=>False) s') /\
  (∀keys s',I vs.length keys s'->∃(kd:SortKind) (r:Keyed->Nat),(2<=vs.length->∀(Q:SortKind->Shared->Prop),Q kd s'->wpAny (model prog w) A.in1.in1 (keyKind' keys) Q E s')/\(2<=vs.length->Cmp prog w A.in1.in1 (· = s') (keys.zip vs.toArray) kd r) /\
   ∀ps:List Keyed,ps.Perm (keys.toList.zip vs)->ps.Pairwise (gP r)->Q (.ref s2.heap.objs.size) {s' with heap:=keyEnd s'.heap s2.heap.objs.size kS (ps.map (·.2)).toArray})
theorem sorted_key{v:Value}{q:Addr}{Q:KW}(hc:wpAny (model prog w) A.in1 (collect v) (KeyRun prog w A E q Q) E s) :
  wpAny (model prog w) A (call (.builtin "sorted") [v] [(Str.ofString "key",.ref q)]) Q E s:=by
 refine call_function_entry_kw kind_sorted plain_sorted entry_sorted (ksk_s1 _ _) ?_;unfold Builtin.«sorted»;refine q04 (m:=checkCount "sorted" 1 1 _) (q05 ?_)
 refine q04 (q0X hc (λvs a ⟨n,h⟩=>?_) λ_ _ e=>e);refine q04 (wpAny_newList ?_ (hsz:=by omega));have b:(with1 a vs).get? a.heap.objs.size=some (seqObj "list" vs.toArray 0):=J4 _ rfl;show wpAny _ _ _ _ _ {a with heap:=with1 a vs};obtain⟨z,c⟩:=xH b;obtain⟨I,u,p,d,fin⟩:=h z c _ rfl;refine q04 (q0Y (wpAny_call_entry_kw slot_list_sort ⟨_,b,rfl⟩ entry_list_sort ?body (ksk_l1 _ _)))
 case body=>
  show wpAny (model prog w) A.in1.in1 (Builtin.«list.sort» ⟨[.ref a.heap.objs.size],[(Str.ofString "key",.ref q)]⟩) _ _ _;rw[ksk_t1];refine zS (s:={a with heap:=with1 a vs}) b n I c u p d λkeys g o=>?_;obtain⟨l,r,y,f2,x⟩:=fin keys g o;exact⟨l,r,λh2 {Q} hq=>y h2 Q hq,f2,λi k j=>⟨_,rfl,q05 ⟨_,rfl,x i k j⟩⟩⟩
end
end TS
namespace L2
open PySem PySem.Spec PyProof.Rows QL
abbrev u9(p a:Addr):HO:=.ext λh=>h.IsValuesView p a
section
variable {X:Cx}{pins:KZ}{σ:St}{H:Hp}{s:K1}{h':Heap}
theorem Inv.adopt{t':Nat}{a:Addr}{o:HO}(I:Inv X pins σ H s)(k:∀b u,b≠a->s.heap.get? b=some u->h'.get? b=some u)(hn:H a=none)(hL:a≠X.env.locals)
  (h1:X.s₀.heap.objs.size<=a) (h2:∀x c,X.env.cells.lookup x=some c->c≠a) (h3:∀p∈X.pn++pins,p.1≠a) (new:ce X.prog X.w (aD H a o) h' a o):Inv X pins σ (aD H a o) {s with heap:=h',toks:=t' }:=by
 have i:∀b u,H b=some u->b≠a:=λb u e z=>by rw[z,hn]at e;cases e
 have g:∀b u,H b=some u->aD H a o b=some u:=λb u e=>by rw[ar (i b u e)];exact e
 refine I.step (g':=s.gens) (d':=s.drawn) (ch:=[a]) (λb j=>?_) (λb o _ _ d e _=>k b o (λz=>d (by simp[z])) e) (λb o _ _ d e _=>⟨o.slots,k b o (λz=>d (by simp[z])) e⟩) (λb _ d _ n=>by rw[ar (λz=>d (by simp[z]))];exact n)
  (λb o d e=>⟨o,k b o (λz=>d (by simp[z])) e⟩) (λb l e=>g _ _ e) (λb _ _ e=>g _ _ e) (λb ps e=>⟨#[],by rw[g _ _ e];simp⟩) (λm y=>?_) (λb u e=>?_) I.bare
 ·have e:b=a:=by simpa using j
  subst e;exact⟨.inr h1,hL,h2,h3⟩
 ·obtain⟨o,B,C,w,r⟩:=y
  exact⟨o,B,C,k _ o (Ne.symm hL) w,r⟩
 ·by_cases j:b=a
  ·subst j;rw[af]at e;cases e;exact new
  ·rw[ar j]at e
   refine(I.hok b u e).stay (λc v d q=>k c v ?_ q) (λc q=>g _ _ q) λc l q=>g _ _ q;rcases d with z | z
   ·rw[z];exact j
   ·exact i c _ z
end
section
variable {X:Cx}{o:Expr}{apos cpos:Pos}{td:TE}
def vz(td:TE):TE:=λσ H Q=>td σ H λx H1=>∃a kvs,x=.ref a/\H1 a=some (.dK kvs)/\∀p,H1 p=none->Q (.ref p) (aD H1 p (u9 p a))
theorem Ap(ho:PE X o td)(hb:attributeBase o "values" X.env (eval o X.env)=eval o X.env)(hl:(apos.endLine==cpos.line)=true):PE X (.Call (.Attribute o "values" apos) [] [] cpos) (vz td):=by
 intro c s σ H Q I h;refine wpAny_Call_method0_late hb hl (cq (ho c s σ H _ I h) λu d ⟨x,H1,g,q,a,i,v,l,r⟩=>?_);subst v;obtain rfl:u=Value.ref a:=q;obtain⟨p,n,t3⟩:=BB g (.inl ⟨i,.inl l⟩);refine⟨"dict",_,PySem.F.plainAttrs_dict,PySem.F.slot_dict_values,PySem.F.type_dict_values,p,n,?_⟩;refine Calls.callWith_builtin rfl (evalArgs_nil3 ?_);obtain⟨z,j,vs,rel,m⟩:=pY g.hok l;refine call_meetsIn PySem.F.slot_dict_values m.typeIs PySem.F.entry_dict_values (PySem.F.args_dict_values_1 _) (meets_dict_values (cj X.prog X.w) a j) ⟨⟨_,m⟩,?_⟩;refine⟨.ref d.heap.objs.size,aD H1 d.heap.objs.size (u9 d.heap.objs.size a),g.laid (t':=d.toks) (λb u e=>JY _ e) (Kj _) ?_,rfl,r _ (g.hok.fresh (Kj _))⟩;refine⟨⟨_,J4 _ rfl,rfl,rfl⟩,⟨_,J4 _ rfl⟩,?_⟩;rintro h1 h2 ⟨o,ho,x⟩ k;exact⟨o,k o ho,x⟩
end
end L2
namespace L2
open PySem PySem.Spec PyProof.Rows QL PySem.W
theorem oX{α β:Type}{F:α->β->Prop}:∀{l₁:List α} {l₂:List β} {i:Nat} {a:α},Paired F l₁ l₂->l₁[i]?=some a->∃b,l₂[i]?=some b/\F a b
 |_,_,_,_,.nil,e=>by simp at e
 |_,_,0,_,.cons r _,e=>by simp at e;subst e;exact⟨_,rfl,r⟩
 |_,_,i+1,a,.cons _ t,e=>by
  obtain⟨u,h1,h2⟩:=oX (i:=i) (a:=a) t (by simpa using e);exact⟨u,by simpa using h1,h2⟩
abbrev VE:=cM×Addr×List Str
abbrev G0(e:VE):cM×V:=(e.1,.ref e.2.1)
abbrev AY(e:VE):V:=.ref e.2.1
def gI(g:List Str->Int)(zs:List VE):Prop:=zs.Pairwise λa b=>TS.ordI.blt (kI (g b.2.2,b.2.2)) (kI (g a.2.2,a.2.2))=false
section
variable {X:Cx}{pins:KZ}{σ:St}{H:Hp}{s:K1}{k:Nat}{f:Addr}{fd:K5}{ps:K7}{sp:Sp}{P:List Str->Prop}{g:List Str->Int}{Q:VK}{vs:K2}{es:List VE}
theorem BY(F:br X.prog X.w X.K X.mg X.base bD k f fd ps sp)(hb:dL X.K fd ps [])(hr:c3 (k+2) X.A)
  (hsp:∀l ss H Q E,aN X.K H l (ss.map V.str)->P ss->(∀t,H t=none->Q (.ref t) (aD H t (.tup [.int (g ss),.ref l])))->sp [.ref l] H Q E)
  (I:Inv X pins σ H s) (hl:vs.length=es.length) (hz:es.length<=sizeLine) (hit:∀(i:Nat) (x:Value),vs[i]?=some x->∃e:VE,es[i]?=some e/\x=Value.ref e.2.1)
  (hes:∀e,e∈es->aN X.K H e.2.1 (e.2.2.map V.str)/\P e.2.2)
  (q:∀zs:List VE,zs.Perm es->gI g zs->∀(H':Hp) (l:Addr),aB H H'->H l=none->H' l=some (.lst (zs.map AY))->Q (.ref l) H') :
  TS.KeyRun X.prog X.w X.A X.xe f (EP X pins σ Q) vs s:=by
 refine⟨⋯,λe1 a6 M a4=>?_⟩;have hw:(TS.with1 s vs).objs.size=s.heap.objs.size+1:=size_push' ..;rw[hw]at a4;have nL:∀b,s.heap.objs.size<=b->b≠X.env.locals:=λb hb z=>by have h1:(X.env.locals:Nat)<s.heap.objs.size:=I.lt;rw[<- z]at h1;exact q0Q (Ke h1 hb) (Kt _)
 have nF:∀b,s.heap.objs.size<=b->b∉X.fs:=λb hb=>I.nofs hb;have nC:∀b,s.heap.objs.size<=b->∀x c,X.env.cells.lookup x=some c->c≠b:=λb hb x c e z=>by
  obtain⟨v,o,ho,_⟩:=I.cell x c e;have h1:=Km ho;rw[z]at h1;exact q0Q (Ke h1 hb) (Kt _)
 have nP:∀b,s.heap.objs.size<=b->∀p∈X.pn++pins,p.1≠b:=λb hb p hp z=>by
  have h1:=Km (I.pin p hp).1;rw[z]at h1;exact q0Q (Ke h1 hb) (Kt _)
 have nS:X.s₀.heap.objs.size<=s.heap.objs.size:=I.sz;have a1:H s.heap.objs.size=none:=I.hok.fresh (Kj _);have Y:∀{L:Hp} {C:K1} {pins':KZ},Inv X (pins++pins') σ L C->∀p∈pins,C.heap.get? p.1=some p.2/\L p.1=none/\p.1≠X.env.locals/\p.1∉X.fs/\∀v,p.2.data≠.cell v:=λJ p hp=>J.pin p (q0C _ (q0D _ hp));have B:∀(xs:Array Value) (n:Nat) (v),(seqObj "list" xs n).data≠.cell v:=λxs n v z=>by cases z
 refine⟨λi kA C=>∃(L:Hp) (D:K3) (e:Nat),Inv X (pins++[(s.heap.objs.size,seqObj "list" #[] e1),(M,seqObj "list" kA e)]) σ L C/\aB H L/\kA.toList=D.map Value.ref/\D.length=i /\
  (∀(j:Nat) (t:Addr) (d:VE),D[j]?=some t->es[j]?=some d->L t=some (.tup [.int (g d.2.2),.ref d.2.1])),?_,?_,?_,?_⟩
 ·have I':Inv X pins σ H {s with heap:=TS.sort1 (TS.with1 s vs) s.heap.objs.size vs}:=by
   refine I.kept (t':=s.toks) λb u e=>?_;have:=Km e;exact yo (JY _ e) (Kf this)
  refine⟨H,[],0,I'.pins_of λp hp=>?_,aB.refl _,rfl,rfl,λj t d h=>by simp at h⟩;rcases J'.mp hp with hp | hp
  ·exact I'.pin p (q0C _ hp)
  ·rcases Kb.mp hp with rfl | hp
   ·exact⟨JY _ (JY _ a6),a1,nL _ (Kj _),nF _ (Kj _),B _ _⟩
   ·obtain rfl:=J0.mp hp
    refine⟨?_,I.hok.fresh ⋯,nL _ ⋯,nF _ ⋯,B _ _⟩;have a8:(((TS.with1 s vs).update s.heap.objs.size (Obj.mapSeq λ_=>(#[]:Array Value))).push (seqObj "tuple" vs.toArray 0)).objs.size=M:=by rw[size_push',Heap.size_update,hw];omega
    show(TS.sort1 (TS.with1 s vs) s.heap.objs.size vs).get? M=_;rw[<- a8];exact J4 _ rfl
 ·rintro i kA C ⟨L,D,e,O,sm,hk,S,U⟩
  refine⟨by rw[<- Array.length_toList,hk,JZ];exact S,(O.pin (s.heap.objs.size,_) (by simp)).1,e,(O.pin (M,_) (by simp)).1⟩
 ·rintro i x kA C hx ⟨L,D,e,O,sm,hk,S,U⟩
  obtain⟨d,T,rfl⟩:=hit i x hx;have a3:d∈es:=J2 T;have hS:=sm.seq (hes d a3).1;have a2:=hsp d.2.1 d.2.2 L (λv H2=>∃t,v=.ref t/\L t=none/\H2=aD L t (.tup [.int (g d.2.2),.ref d.2.1])) E0 hS (hes d a3).2 λt Z=>⟨t,rfl,Z,rfl⟩;refine wpAny_call (codeAny_mono (F.run X.A.in1.in1 X.stack C L ⟨[.ref d.2.1],[]⟩ [.ref d.2.1] [.ref d.2.1] _ E0 (hr.in1.in1) O.env0.in1.in1 (hb C [.ref d.2.1] O.kIn (by have:=F.len _ _ _ _ a2;simpa using this)) (.cons rfl .nil) a2) λr s2 hq=>?_);cases r with
  |error e=>exact hq
  |ok fl=>
   cases fl with
   |next=>exact False.elim hq
   |brk=>exact False.elim hq
   |cont=>exact False.elim hq
   |ret u=>
    obtain⟨v,H2,I2,rv,t,rfl,Z,rfl⟩:=O.after hq;obtain rfl:u=Value.ref t:=rv;have p0:=I2.pin (s.heap.objs.size,seqObj "list" #[] e1) (by simp);have pk:=I2.pin (M,seqObj "list" kA e) (by simp);have Ia:Inv X (pins++[(s.heap.objs.size,seqObj "list" #[] e1)]) σ (aD L t (.tup [.int (g d.2.2),.ref d.2.1])) s2:=I2.pins_of λp hp=>by
     rcases J'.mp hp with hp | hp
     ·exact Y I2 p hp
     ·obtain rfl:=J0.mp hp;exact p0
    have Ib:=Ia.turned (t':=s2.toks) (h':=s2.heap.update M (Obj.mapSeq (·.push (Value.ref t)))) (λb o hb e=>(Heap.get?_update_ne _ _ _ _ hb).trans e) pk.2.1 (nL _ ⋯) (.inr ⋯) (nC _ ⋯) (λp hp=>by
     rcases J'.mp hp with hp | hp
     ·exact nP _ ⋯ p (q0D _ hp)
     ·rcases J'.mp hp with hp | hp
      ·exact nP _ ⋯ p (q0C _ hp)
      ·obtain rfl:=J0.mp hp;show s.heap.objs.size≠M;omega)
    obtain⟨e',a7⟩:∃e',(s2.heap.update M (Obj.mapSeq (·.push (Value.ref t)))).get? M=some (seqObj "list" (kA.push (Value.ref t)) e'):=⟨_,get?_update_seq pk.1 _⟩;refine⟨⟨e,pk.1⟩,aD L t (.tup [.int (g d.2.2),.ref d.2.1]),D++[t],e',Ib.pins_of λp hp=>?_,sm.trans (ak Z),by simp[hk],by simp[S],λj u e2 h1 h2=>?_⟩
    rotate_right
    ·by_cases hj:j<D.length
     ·rw[Kh hj]at h1
      have q1:=U j u e2 h1 h2;rw[ar (aI q1 Z)];exact q1
     ·have:j=D.length:=by have:=(JX.mp h1).1;simp at this;omega
      subst this;rw[List.getElem?_concat_length]at h1;cases h1;rw[S,T]at h2;cases h2;exact af
    ·rcases J'.mp hp with hp | hp
     ·exact Ib.pin p (q0C _ (q0D _ hp))
     ·rcases Kb.mp hp with rfl | hp
      ·exact Ib.pin (s.heap.objs.size,_) (by simp)
      ·obtain rfl:=J0.mp hp
       exact⟨a7,pk.2.1,nL _ ⋯,nF _ ⋯,B _ _⟩
 ·rintro keys C ⟨L,D,e,O,sm,hk,S,U⟩
  have ez:keys.toList.zip vs=(D.zip es).map λG=>(Value.ref G.1,Value.ref G.2.2.1):=by
   apply List.ext_getElem
   ·simp[hk];omega
   ·intro i i1 i2
    have h1:i<vs.length:=by rw[q0N]at i1;omega
    obtain⟨d,T,hx⟩:=hit i vs[i] (JW h1);obtain⟨h3,h4⟩:=JX.mp T;simp only[List.getElem_zip,List.getElem_map,hk,hx,h4]
  have tup:∀G,G∈D.zip es->TS.TupI C.heap (Value.ref G.1) (g G.2.2.2,G.2.2.2):=λG a5=>by
   obtain⟨i,hi,e⟩:=List.mem_iff_getElem.mp a5;rw[List.getElem_zip]at e;have h1:i<D.length:=by rw[q0N]at hi;omega
   have h2:i<es.length:=by rw[q0N]at hi;omega
   have q1:=U i D[i] es[i] (JW h1) (JW h2);subst e;exact O.pair (x:=.ref D[i]) ⟨D[i],es[i].2.1,rfl,dt.of q1,sm.seq (hes _ (J6 h2)).1⟩ rfl
  have all:∀v,v∈keys.toList->∃k,TS.TupI C.heap v k:=λv hv=>by
   rw[hk]at hv;obtain⟨t,Z,rfl⟩:=KI.mp hv;obtain⟨i,hi,e⟩:=List.mem_iff_getElem.mp Z;refine⟨_,tup (D[i],es[i]'⋯) ?_ |> λz=>by rw[<- e];exact z⟩;refine List.mem_iff_getElem.mpr ⟨i,by rw[q0N];omega,by rw[List.getElem_zip]⟩
  refine⟨tuples' true,TS.rk TS.ordI (TS.keyI C.heap) (keys.zip vs.toArray).toList,λh2 Q hq=>?_,λ_=>TS.cmp_I (by have:=hr.un;show X.A.units+1+1<cLine;omega) λp hp=>all p.1 ?_,λps p1 p2=>?_⟩
  ·have:=TS.kind_I (prog:=X.prog) (w:=X.w) (A:=X.A.in1.in1) (E:=X.xe) (vs:=keys.toList) all (by rw[hk,JZ];omega) hq
   simpa using this
  ·rw[ksk_zip]at hp
   exact(List.of_mem_zip hp).1
  ·rw[ksk_zip]at p2
   have p3:=TS.ranks_out p1 p2;obtain⟨R,pm,rfl⟩:=tJ p1 _ ez;have mm:∀t,t∈R->t∈D.zip es:=λt Z=>pm.mem_iff.mp Z;rw[List.pairwise_map]at p3;have p4:gI g (R.map (·.2)):=by
    unfold gI;rw[List.pairwise_map];refine(List.Pairwise.and_mem.mp p3).imp ?_;rintro x y ⟨hx,hy,hb⟩;rw[TS.keyI_eq (p:=(Value.ref x.1,Value.ref x.2.2.1)) (tup x (mm x hx)),TS.keyI_eq (p:=(Value.ref y.1,Value.ref y.2.2.1)) (tup y (mm y hy))]at hb;exact hb
   have p5:(R.map (·.2)).Perm es:=(pm.map _).trans (by rw[List.map_snd_zip ⋯]);have qq:=q _ p5 p4;have a0:(((R.map (·.2))).map AY).length<=sizeLine:=by rw[JZ,p5.length_eq];exact hz
   have vo:bp ((R.map (·.2)).map AY) (R.map λG=>Value.ref G.2.2.1):=by
    clear p3 p4 p5 qq a0 mm pm p1 p2
    induction R with
    |nil=>exact .nil
    |cons t m ih=>exact .cons rfl ih
   have eo:List.map (λx=>x.2) (List.map (λG:Addr×VE=>(Value.ref G.1,Value.ref G.2.2.1)) R)=R.map λG=>Value.ref G.2.2.1:=by rw[Ka];rfl
   rw[eo];generalize(R.map λG=>Value.ref G.2.2.1)=out at vo ⊢;generalize(R.map (·.2)).map AY=zv at vo qq a0;clear p3 p4 p5 pm mm p2 p1 eo;have p0:=O.pin (s.heap.objs.size,seqObj "list" #[] e1) (by simp);have pk:=O.pin (M,seqObj "list" keys e) (by simp);have Ia:Inv X pins σ L C:=O.pins_of (Y O);have Ib:=Ia.turned (t':=C.toks) (h':=C.heap.update M (Obj.mapSeq λ_=>(#[]:Array Value))) (λb o hb e=>(Heap.get?_update_ne _ _ _ _ hb).trans e) pk.2.1 (nL _ ⋯) (.inr ⋯) (nC _ ⋯) (nP _ ⋯);have ga:(C.heap.update M (Obj.mapSeq λ_=>(#[]:Array Value))).get? s.heap.objs.size=some (seqObj "list" #[] e1):=(Heap.get?_update_ne _ _ _ _ (λz=>by have z2:(s.heap.objs.size:Nat)=s.heap.objs.size+1+1:=Eq.trans z a4;omega)).trans p0.1;have Ic:=Ib.adopt (t':=C.toks) (a:=s.heap.objs.size) (o:=.lst zv) (h':=TS.keyEnd C.heap s.heap.objs.size M out.toArray) (λb u hb e=>(Heap.get?_update_ne _ _ _ _ hb).trans e) p0.2.1 (nL _ (Kj _)) nS (nC _ (Kj _)) (nP _ (Kj _))
    (show ce X.prog X.w _ _ _ (.lst zv) from⟨a0,out,_,vo,get?_update_seq ga _⟩)
   exact⟨.ref s.heap.objs.size,_,Ic,rfl,qq _ _ (bK sm a1) a1 af⟩
end
def r_(K:KY)(P:List Str->Prop)(g:List Str->Int)(t:TA):TE:=λσ H Q=>t σ H λxs H1=>∃(p a:Addr) (es:List VE),xs=[.ref p]/\H1 p=some (u9 p a)/\H1 a=some (.dK (es.map G0))/\(∀e,e∈es->aN K H1 e.2.1 (e.2.2.map V.str)/\P e.2.2) /\
 ∀zs:List VE,zs.Perm es->gI g zs->∀(H':Hp) (l:Addr),aB H1 H'->H1 l=none->H' l=some (.lst (zs.map AY))->Q (.ref l) H'
section
variable {X:Cx}{e:Expr}{t:TA}{p fp pos kpos:Pos}{k:Nat}{fx:Str}{ps:K7}{sp:Sp}{P:List Str->Prop}{g:List Str->Int}
theorem y3(hr:c3 (k+2) X.A)(hc:X.calm=true)(hg:Gl X "sorted")(hm:X.mg "sorted"=none)(C:dG X.prog X.w X.K X.mg X.base bD k fx ps sp)(hgf:Gl X fx)
  (hsp:∀l ss H Q E,aN X.K H l (ss.map V.str)->P ss->(∀t,H t=none->Q (.ref t) (aD H t (.tup [.int (g ss),.ref l])))->sp [.ref l] H Q E) (ha:PA X [e] t) (hdb:autoParam ((fx==("__debug__":Str))=false) zz4._auto_1)
  (he:autoParam (backTo pos (starEach [e] X.env)=(false,eval e X.env)::backTo pos (starEach [] X.env)) zz0._auto_1) (hpl:autoParam ((backTo pos (starEach [e] X.env)).any (·.1)=false) zz0._auto_1)
  (hall:autoParam ((backToKw pos (keywordEach [⟨some "key",.Name fx fp,kpos⟩] X.env)).all (·.1.isSome)=true) zz0._auto_1) (hkw:autoParam ((backToKw pos (keywordEach [⟨some "key",.Name fx fp,kpos⟩] X.env)).any (·.1.isNone)=false) zz0._auto_1)
  (hks:autoParam ((backToKw pos (keywordEach [⟨some "key",.Name fx fp,kpos⟩] X.env)).filterMap (·.1)=[Str.ofString "key"]) zz0._auto_1) :
  PE X (.Call (.Name "sorted" p) [e] [⟨some "key",.Name fx fp,kpos⟩] pos) (r_ X.K P g t):=by
 obtain⟨f,fd,F,G,hkf,L⟩:=C.ex;intro c s σ H Q I h;have hb:bootBuiltins "sorted"=some (.builtin "sorted"):=by decide +kernel
 refine wpAny_Call_Name_kw (eG I hg hm hb ?_);refine callWith_kw (cq (ha pos c s σ H _ I h) λus Y ⟨vs,H1,I1,r,q⟩=>?_) he hpl hall hkw;have hk:PK X [⟨some "key",.Name fx fp,kpos⟩] (jz (tC (.ref f)) nN):=CY (di hgf G rfl hdb) ET;refine cq (hk pos c Y σ H1 (λR H2=>R=[.ref f]/\H2=H1) I1 ⟨rfl,rfl⟩) λws s2 ⟨R,H2,B,Z,ez,eh⟩=>?_;subst ez eh;rw[hks];obtain⟨S,a,y,rfl,hp,O,J,q3⟩:=q;obtain⟨u,rfl,ru⟩:=r.one;cases ru;obtain⟨u2,rfl,D⟩:=Z.one;cases D;show wpAny _ _ (call (.builtin "sorted") [.ref S] [(Str.ofString "key",.ref f)]) _ _ _;refine TS.sorted_key ?_;obtain⟨z,hd,vs,m,dd⟩:=pY B.hok O;obtain⟨ep,da⟩:=dd.dictAt;obtain⟨hv,_⟩:=B.hok _ _ hp;have n:vs.length=y.length:=by rw[<- m.length,JZ]
 have hz:y.length<=sizeLine:=by rw[JZ]at z;exact z
 refine TS.collect_src (PySem.W.kdl_values (knd:=cj X.prog X.w) (r:=S) (d:=a) (kvs:=vs) (ep:=ep)) (B.ok.hd hc) ⟨hv,da⟩ ⋯ λh' U acc' kp j=>?_;have I3:=B.kept (t':=U) kp;refine BY F L hr hsp I3 (by rw[Array.length_toList,j.1,n]) hz (λi x hx=>?_) J q3;obtain⟨kk,o⟩:=j.2 i x (by simpa using hx);have T:i<y.length:=by have:=(JX.mp o).1;omega
 refine⟨y[i],JW T,?_⟩;have:=oX m (i:=i) (a:=G0 y[i]) (by rw[J1,JW T];rfl);obtain⟨b,v,_,M⟩:=this;rw[o]at v;cases v;exact M
end
end L2
namespace Win
abbrev Wn:=List Int
def wn(t l b r:Nat):Wn:=[(t:Int),(l:Int),(b:Int),(r:Int)]
def W4(t l b n:Nat):List Wn:=(List.range n).map λk=>wn t l b (l+1+k)
def W3(c t l n:Nat):List Wn:=(List.range n).flatMap λk=>W4 t l (t+1+k) (c-l)
def W2(r c t n:Nat):List Wn:=(List.range n).flatMap λl=>W3 c t l (r-t)
def W1(r c n:Nat):List Wn:=(List.range n).flatMap λt=>W2 r c t c
def jX(r c:Nat):List Wn:=W1 r c r
theorem CJ(t l b n:Nat):W4 t l b (n+1)=W4 t l b n++[wn t l b (l+1+n)]:=by unfold W4;rw[q0M,J_];rfl
theorem CB(c t l n:Nat):W3 c t l (n+1)=W3 c t l n++W4 t l (t+1+n) (c-l):=by unfold W3;rw[q0M,List.flatMap_append];simp
theorem B1(r c t n:Nat):W2 r c t (n+1)=W2 r c t n++W3 c t n (r-t):=by unfold W2;rw[q0M,List.flatMap_append];simp
theorem Ch(r c n:Nat):W1 r c (n+1)=W1 r c n++W2 r c n c:=by unfold W1;rw[q0M,List.flatMap_append];simp
def lt:Wn->Wn->Bool
 | [],[]=>false
 | [],_::_=>true
 |_::_,[]=>false
 |x::xs,y::ys=>if x=y then lt xs ys else decide (x<y)
def good(r c:Nat):Wn->Bool
 | [t,l,b,x]=>decide (0<=t)&&decide (t<b)&&decide (b<=(r:Int))&&decide (0<=l)&&decide (l<x)&&decide (x<=(c:Int))
 |_=>false
def zF:Wn->List Wn->Bool
 |_,[]=>true
 |a,w::ws=>lt a w&&zF w ws
def check(r c:Nat):Bool:=(jX r c).all (good r c)&&zF [-1,0,0,0] (jX r c)&&((jX r c).length==r*(r+1)/2*(c*(c+1)/2))&&decide ((jX r c).length<=1000)
theorem yu:((List.range 6).all λr=>(List.range 6).all λc=>check (r+1) (c+1))=true:=by decide +kernel
theorem Cd{r c:Nat}(hr0:0<r)(hr:r<=6)(hc0:0<c)(hc:c<=6):check r c=true:=by
 have h:=KJ.mp yu (r-1) (List.mem_range.mpr ⋯);have h2:=KJ.mp h (c-1) (List.mem_range.mpr ⋯);have b:r-1+1=r:=by omega
 have a:c-1+1=c:=by omega
 rw[b,a]at h2;exact h2
def cut(p:List (List Nat))(t l b x:Nat):List (List Nat):=((p.drop t).take (b-t)).map λrow=>(row.drop l).take (x-l)
end Win
namespace SnM
open PySem L2 aO QL Win
def bU(p:aO):Prop:=∀row∈p,47∉row
theorem xX{p:aO}(h:bU p):bU (mirror p):=by
 intro row hr;obtain⟨x,a,rfl⟩:=KI.mp hr;rw[List.mem_reverse];exact h x a
theorem vQ{p:aO}{r c:Nat}(hp:rect p r c)(hr:0<r)(h:bU p):bU (bv p):=by
 intro row a;unfold bv at a;rw[bc hp hr]at a;obtain⟨i,g,rfl⟩:=KI.mp a;have g:=List.mem_range.mp g;intro d;obtain⟨x,j,e⟩:=KI.mp d;have b:=List.mem_reverse.mp j;have hl:=hp.2 x b;rw[q0A,JW ⋯,q0L]at e;exact h x b (e▸J6 _)
theorem iQ:∀(n:Nat) {p:aO} {r c:Nat},rect p r c->0<r->0<c->bU p->bU (aP n p)
 |0,_,_,_,_,_,_,h=>h
 |n+1,p,r,c,hp,hr,hc,h=>by
  have e:aP (n+1) p=bv (aP n p):=(cG 1 n p).symm;rw[e];have hq:=cV n hp hr hc;refine vQ hq ?_ (iQ n hp hr hc h)
  split<;>assumption
theorem pR{p:aO}{r c:Nat}(hp:rect p r c)(hr:0<r)(hc:0<c)(h:bU p)(t:Nat):bU (turned p t):=by
 unfold turned
 split
 ·exact iQ _ (cg hp) hr hc (xX h)
 ·exact iQ _ hp hr hc h
theorem EY{p:aO}{t l b x:Nat}(h:bU p):bU (cut p t l b x):=by
 intro row hr;obtain⟨y,c,rfl⟩:=KI.mp hr;exact λa=>h y (q0I (q0H c)) (q0I (q0H a))
theorem cB{p:aO}{r c t l b x:Nat}(hp:rect p r c)(h1:t<b)(h2:b<=r)(h3:l<x)(h4:x<=c):rect (cut p t l b x) (b-t) (x-l):=by
 refine⟨?_,λrow hr=>?_⟩
 ·unfold cut;rw[JZ,KA,KC,hp.1];omega
 ·obtain⟨y,a,rfl⟩:=KI.mp hr
  have:=hp.2 y (q0I (q0H a));rw[KA,KC];omega
theorem oR{r c:Nat}{w:Wn}:w∈jX r c↔∃t l b x:Nat,w=wn t l b x/\t<b/\b<=r/\l<x/\x<=c:=by
 unfold jX W1 W2 W3 W4;simp only[List.mem_flatMap,KI,List.mem_range]
 constructor
 ·rintro⟨t,ht,l,hl,k,hk,m,hm,rfl⟩
  exact⟨t,l,t+1+k,l+1+m,rfl,⋯,⋯,⋯,⋯⟩
 ·rintro⟨t,l,b,x,rfl,h1,h2,h3,h4⟩
  exact⟨t,⋯,l,⋯,b-t-1,⋯,x-l-1,⋯,by rw[show t+1+(b-t-1)=b by omega,show l+1+(x-l-1)=x by omega]⟩
def B9(p:aO)(w:Wn):aO:=cut p (w.getD 0 0).toNat (w.getD 1 0).toNat (w.getD 2 0).toNat (w.getD 3 0).toNat
theorem mU(p:aO)(t l b x:Nat):B9 p (wn t l b x)=cut p t l b x:=rfl
def bM(p:aO)(r c:Nat)(q:aO):Prop:=∃t l b x u:Nat,t<b/\b<=r/\l<x/\x<=c/\u<8/\q=turned (cut p t l b x) u
theorem zr{p q:aO}{r c:Nat}:bM p r c q↔∃i,i<(jX r c).length/\∃u,u<8/\q=turned (B9 p ((jX r c).getD i [])) u:=by
 constructor
 ·rintro⟨t,l,b,x,u,h1,h2,g,d,k,rfl⟩
  obtain⟨i,a,e⟩:=List.mem_iff_getElem.mp (oR.mpr ⟨t,l,b,x,rfl,h1,h2,g,d⟩);refine⟨i,a,u,k,?_⟩;rw[q0A,JW a,q0L,e,mU]
 ·rintro⟨i,a,u,j,rfl⟩
  obtain⟨t,l,b,x,e,h1,h2,g,d⟩:=oR.mp (J6 a);refine⟨t,l,b,x,u,h1,h2,g,d,j,?_⟩;rw[q0A,JW a,q0L,e,mU]
theorem xD{p:aO}{r c:Nat}(hp:rect p r c)(hn:bU p){t l b x u:Nat}(h1:t<b)(h2:b<=r)(h3:l<x)(h4:x<=c) :
  turned (cut p t l b x) u≠[]/\bU (turned (cut p t l b x) u)/\∃r' c',rect (turned (cut p t l b x) u) r' c'/\0<r'/\0<c'/\r'<=max r c/\c'<=max r c:=by
 have d:=cB hp h1 h2 h3 h4;have a:=cF d ⋯ ⋯ u;refine⟨λe=>?_,pR d ⋯ ⋯ (EY hn) u,_,_,a,by split<;>omega,by split<;>omega,by split<;>omega,by split<;>omega⟩;have:=a.1;rw[e]at this;simp at this
 split at this<;>omega
abbrev AP:=Addr×aO
def DV(z:AP):VE:=(.inr (tx (SpM.glue 47 z.2)),z.1,z.2.map tx)
abbrev jm(z:AP):cM×V:=G0 (DV z)
def lu(zs:List AP)(z:AP):List AP:=if(zs.any λz0=>decide (z0.2=z.2))=true then zs.map (λz0=>if z0.2=z.2 then z else z0) else zs++[z]
theorem dB{a b:K0}(h:tx a=tx b):a=b:=by rw[<- dj a,<- dj b,h]
theorem zK{zs:List AP}{z:AP}(inj:∀z0∈zs,SpM.glue 47 z0.2=SpM.glue 47 z.2->z0.2=z.2):dw (zs.map jm) (.inr (tx (SpM.glue 47 z.2))) (.ref z.1)=(lu zs z).map jm:=by
 have b:∀z0∈zs,((jm z0).1=Sum.inr (tx (SpM.glue 47 z.2))↔z0.2=z.2):=λz0 c=>⟨λe=>inj z0 c (dB (Sum.inr.inj e)),λe=>by show Sum.inr (tx (SpM.glue 47 z0.2))=_;rw[e]⟩;unfold dw lu;have i:((zs.map jm).any λg=>decide (g.1=Sum.inr (tx (SpM.glue 47 z.2))))=zs.any λz0=>decide (z0.2=z.2):=by
  rw[List.any_map];clear inj
  induction zs with
  |nil=>rfl
  |cons a l ih=>
   rw[List.any_cons,List.any_cons,ih λz0 c=>b z0 (Kc _ c)]
   congr 1
   exact decide_eq_decide.mpr (b a (q0B ..))
 rw[i]
 split
 ·rw[Ka,Ka]
  refine q0K λz0 c=>?_;show(if(jm z0).1=Sum.inr (tx (SpM.glue 47 z.2)) then((jm z0).1,V.ref z.1) else jm z0)=jm (if z0.2=z.2 then z else z0)
  by_cases h:z0.2=z.2
  ·have d:=(b z0 c).mpr h
   rw[q07 d,q07 h,d]
   rfl
  ·rw[q06 λq=>h ((b z0 c).mp q),q06 h]
 ·rw[J_];rfl
structure fF(H H':Hp)(d:Addr)(dn:aO->Prop)(zs:List AP)(n:Nat):Prop where
 tbl:H' d=some (.dK (zs.map jm))
 sm:aB H H'
 hd:H d=none
 each:∀z∈zs,H z.1=none/\H' z.1=some (.lst (ao z.2))/\z.2≠[]/\bU z.2/\(z.2.headD []).length<=64
 nda:(zs.map (·.1)).Nodup
 ndp:(zs.map (·.2)).Nodup
 mem:∀q,q∈zs.map (·.2)↔dn q
 len:zs.length<=n
theorem fF.step{H H1 H2:Hp}{d b:Addr}{dn:aO->Prop}{zs:List AP}{q:aO}{n:Nat}(S:fF H H1 d dn zs n)(sm:aB H1 H2)(hb:H1 b=none)(hb2:H2 b=some (.lst (ao q)))(hq:q≠[])(ns:bU q)(hl:(q.headD []).length<=64) :
  dw (zs.map jm) (.inr (tx (SpM.glue 47 q))) (.ref b)=(lu zs (b,q)).map jm/\fF H (aD H2 d (.dK ((lu zs (b,q)).map jm))) d (λx=>dn x\/x=q) (lu zs (b,q)) (n+1):=by
 refine⟨zK (z:=(b,q)) λz0 h0 e=>SpM.glue_inj 47 (S.each z0 h0).2.2.1 hq (S.each z0 h0).2.2.2.1 ns e,?_⟩;have nbd:b≠d:=λe=>by rw[e,S.tbl]at hb;cases hb
 have nzd:∀z∈zs,z.1≠d:=λz hz=>pV (S.each z hz).2.1 S.tbl (by intro e;cases e);have nzb:∀z∈zs,z.1≠b:=λz hz=>aI (S.each z hz).2.1 hb;have old:∀z∈zs,H z.1=none/\aD H2 d (.dK ((lu zs (b,q)).map jm)) z.1=some (.lst (ao z.2))/\z.2≠[]/\bU z.2/\(z.2.headD []).length<=64:=λz hz=>by
  obtain⟨h1,h2,h3⟩:=S.each z hz;exact⟨h1,by rw[ar (nzd z hz)];exact sm _ _ h2,h3⟩
 have new:H b=none/\aD H2 d (.dK ((lu zs (b,q)).map jm)) b=some (.lst (ao q))/\q≠[]/\bU q/\(q.headD []).length<=64:=⟨S.sm.free hb,by rw[ar nbd];exact hb2,hq,ns,hl⟩
 by_cases h:(zs.any λz0=>decide (z0.2=q))=true
 ·have e:lu zs (b,q)=zs.map λz0=>if z0.2=q then(b,q) else z0:=by unfold lu;rw[q07 h]
  have e2:((lu zs (b,q)).map (·.2))=zs.map (·.2):=by
   rw[e,Ka];refine q0K λz0 _=>?_;show(if z0.2=q then(b,q) else z0).2=z0.2
   split
   ·rename_i hz;exact hz.symm
   ·rfl
  obtain⟨z1,hz1,hz2⟩:=List.any_eq_true.mp h;have hz2:=of_decide_eq_true hz2;refine⟨af,bK (S.sm.trans sm) S.hd,S.hd,?_,?_,by rw[e2];exact S.ndp,λx=>?_,by rw[e,JZ];exact Nat.le_succ_of_le S.len⟩
  ·intro z hz
   have hz':=hz;rw[e]at hz';obtain⟨z0,h0,ez⟩:=KI.mp hz'
   split at ez
   ·rw[<- ez];exact new
   ·rw[<- ez];exact old z0 h0
  ·rw[e,Ka,List.Nodup,List.pairwise_map]
   have h1:=S.nda;have h2:=S.ndp;rw[List.Nodup,List.pairwise_map]at h1 h2;refine(List.Pairwise.and_mem.mp (h1.and h2)).imp ?_;rintro x y ⟨hx,hy,n1,n2⟩;show(if x.2=q then(b,q) else x).1≠(if y.2=q then(b,q) else y).1
   by_cases c1:x.2=q
   ·rw[q07 c1,q06 λc2=>n2 (c1.trans c2.symm)]
    exact(nzb y hy).symm
   ·rw[q06 c1]
    by_cases c2:y.2=q
    ·rw[q07 c2];exact nzb x hx
    ·rw[q06 c2];exact n1
  ·rw[e2,S.mem]
   refine⟨.inl,λz=>z.elim id λz=>?_⟩;rw[<- S.mem,z];exact KI.mpr ⟨z1,hz1,hz2⟩
 ·have e:lu zs (b,q)=zs++[(b,q)]:=by unfold lu;rw[q06 h]
  refine⟨af,bK (S.sm.trans sm) S.hd,S.hd,?_,?_,?_,λx=>?_,by rw[e,Ki];exact Nat.succ_le_succ S.len⟩
  ·intro z hz
   have hz':=hz;rw[e]at hz';rcases J'.mp hz' with hz' | hz'
   ·exact old z hz'
   ·rw[J0.mp hz'];exact new
  ·rw[e,J_,List.nodup_append]
   refine⟨S.nda,by simp,λa ha c hc=>?_⟩;obtain⟨z,hz,rfl⟩:=KI.mp ha;have:c=b:=by simpa using hc
   rw[this];exact nzb z hz
  ·rw[e,J_,List.nodup_append]
   refine⟨S.ndp,by simp,λa ha c hc=>?_⟩;obtain⟨z,hz,rfl⟩:=KI.mp ha;have:c=q:=by simpa using hc
   rw[this];exact λhz2=>h (List.any_eq_true.mpr ⟨z,hz,q09 hz2⟩)
  ·rw[e,J_,J',S.mem]
   simp
theorem fF.congr{H H':Hp}{d:Addr}{dn dn':aO->Prop}{zs:List AP}{n:Nat}(S:fF H H' d dn zs n)(h:∀q,dn q↔dn' q):fF H H' d dn' zs n:=⟨S.tbl,S.sm,S.hd,S.each,S.nda,S.ndp,λq=>(S.mem q).trans (h q),S.len⟩
theorem fF.same{H H' H2:Hp}{d:Addr}{dn:aO->Prop}{zs:List AP}{n:Nat}(S:fF H H' d dn zs n)(sm:aB H' H2):fF H H2 d dn zs n:=⟨sm _ _ S.tbl,S.sm.trans sm,S.hd,λz hz=>let ⟨h1,h2,h3⟩:=S.each z hz;⟨h1,sm _ _ h2,h3⟩,S.nda,S.ndp,S.mem,S.len⟩
def gq(ss:K7):Int:=(ss.length:Int)*((ss.headD ⟨#[]⟩).length:Int)
def bG(p:aO):Nat:=p.length*(p.headD []).length
def Hb(a b:aO):Prop:=bG a<bG b\/bG a=bG b/\a<b
def FF(p:aO)(r c:Nat)(qs:List aO):Prop:=(∀q,q∈qs↔bM p r c q)/\qs.Pairwise Hb
theorem xJ(p:aO):((p.map tx).headD ⟨#[]⟩).length=(p.headD []).length:=by
 cases p with
 |nil=>rfl
 |cons r p=>exact ax r
theorem yU(p:aO):gq (p.map tx)=(bG p:Int):=by
 unfold gq bG;rw[JZ,xJ];simp
theorem FU(p:aO):TS.ks (p.map tx)=p:=by
 unfold TS.ks;rw[Ka];exact(q0K λr _=>dj r).trans (List.map_id _)
theorem DH(p:aO):kI (gq (p.map tx),p.map tx)=((bG p:Int),p):=by
 show(gq (p.map tx),TS.ks (p.map tx))=_;rw[yU,FU]
theorem yW{ws:List AP}(h:gI gq (ws.map DV))(nd:(ws.map (·.2)).Nodup):(ws.map (·.2)).Pairwise Hb:=by
 unfold gI at h;rw[List.pairwise_map]at h ⊢;rw[List.Nodup,List.pairwise_map]at nd;refine(h.and nd).imp ?_;rintro a b ⟨c,e⟩;have c:TS.ordI.blt (kI (gq (b.2.map tx),b.2.map tx)) (kI (gq (a.2.map tx),a.2.map tx))=false:=c;rw[DH,DH]at c;cases d:TS.ordI.blt ((bG a.2:Int),a.2) ((bG b.2:Int),b.2) with
 |true=>
  have:=of_decide_eq_true d;rcases this with h1 | ⟨h1,h2⟩
  ·exact .inl (Int.ofNat_lt.mp h1)
  ·exact .inr ⟨Int.ofNat.inj h1,h2⟩
 |false=>
  have:=TS.ordI.total _ _ d c;exact q0Q (q0R Prod.snd this) e
theorem jD{p:aO}{r c t l b x i j:Nat}(hp:rect p r c)(h2:b<=r)(h4:x<=c)(hi:i<b-t)(hj:j<x-l):zC (cut p t l b x) i j=zC p (t+i) (l+j):=by
 have h1:t+i<p.length:=by rw[hp.1];omega
 have h3:(p[t+i]).length=c:=hp.2 _ (J6 _);have a:(cut p t l b x).getD i []=((p.getD (t+i) []).drop l).take (x-l):=by
  unfold cut;simp only[q0A];rw[J1,List.getElem?_take_of_lt hi,List.getElem?_drop,JW h1]
  rfl
 unfold zC;rw[a];simp only[q0A];rw[List.getElem?_take_of_lt hj,List.getElem?_drop]
theorem wg{p:aO}{r c t l b x:Nat}(hp:rect p r c)(h1:t<b)(h2:b<=r)(h3:l<x)(h4:x<=c):cut (mirror p) t l b x=mirror (cut p t (c-x) b (c-l)):=by
 have d:=cB hp h1 h2 (show c-x<c-l by omega) (show c-l<=c by omega);refine kG (cB (cg hp) h1 h2 h3 h4) (r:=b-t) (c:=x-l) ?_ λi j a e=>?_
 ·have:=cg d
  rwa [show c-l-(c-x)=x-l by omega]at this
 ·rw[jD (cg hp) h2 h4 a e,jc hp ⋯ ⋯,jc d a ⋯,jD hp h2 ⋯ a ⋯]
  congr 1
  omega
theorem vc{p:aO}{r c t l b x:Nat}(hp:rect p r c)(h1:t<b)(h2:b<=c)(h3:l<x)(h4:x<=r):cut (bv p) t l b x=bv (cut p (r-x) t (r-l) b):=by
 have e:=cB hp (show r-x<r-l by omega) (show r-l<=r by omega) h1 h2;have a:=bR hp ⋯;refine kG (cB a h1 h2 h3 h4) (r:=b-t) (c:=x-l) ?_ λi j d g=>?_
 ·have:=bR e ⋯
  rwa [show r-l-(r-x)=x-l by omega]at this
 ·rw[jD a h2 h4 d g,cL hp ⋯ ⋯ ⋯,cL e ⋯ d ⋯,jD hp ⋯ h2 ⋯ ⋯]
  congr 1
  omega
theorem io:∀(n:Nat) {p:aO} {r c t l b x:Nat},rect p r c->t<b->b<=(if n%2=0 then r else c)->l<x->x<=(if n%2=0 then c else r)->∃t' l' b' x',t'<b'/\b'<=r/\l'<x'/\x'<=c/\cut (aP n p) t l b x=aP n (cut p t' l' b' x')
 |0,p,r,c,t,l,b,x,hp,h1,h2,h3,h4=>⟨t,l,b,x,h1,by simpa using h2,h3,by simpa using h4,rfl⟩
 |n+1,p,r,c,t,l,b,x,hp,h1,h2,h3,h4=>by
  have hr:0<r/\0<c:=by
   split at h2<;>split at h4<;>omega
  have e:∀q:aO,aP (n+1) q=aP n (bv q):=λq=>rfl;rw[e];obtain⟨t',l',b',x',g,d,k,j,i⟩:=io n (bR hp hr.1) (t:=t) (l:=l) (b:=b) (x:=x) h1 (by
   by_cases a:n%2=0
   ·rw[q06 ⋯]at h2;rw[q07 a];exact h2
   ·rw[q07 ⋯]at h2;rw[q06 a];exact h2) h3 (by
   by_cases a:n%2=0
   ·rw[q06 ⋯]at h4;rw[q07 a];exact h4
   ·rw[q07 ⋯]at h4;rw[q06 a];exact h4)
  refine⟨r-x',t',r-l',b',⋯,⋯,g,d,?_⟩;rw[i,vc hp g d k j,e]
theorem vW{p:aO}{r c t l b x u:Nat}(hp:rect p r c)(h1:t<b)(h2:b<=(if u%2=0 then r else c))(h3:l<x)(h4:x<=(if u%2=0 then c else r)):∃t' l' b' x',t'<b'/\b'<=r/\l'<x'/\x'<=c/\cut (turned p u) t l b x=turned (cut p t' l' b' x') u:=by
 have e:u%4%2=u%2:=by omega
 unfold turned
 by_cases h:4<=u
 ·rw[q07 h]
  obtain⟨t',l',b',x',d,a,j,i,g⟩:=io (u%4) (cg hp) h1 (by rw[e];exact h2) h3 (by rw[e];exact h4);refine⟨t',c-x',b',c-l',d,a,⋯,⋯,?_⟩;rw[g,wg hp d a j i,q07 h]
 ·rw[q06 h]
  obtain⟨t',l',b',x',d,a,j,i,g⟩:=io (u%4) hp h1 (by rw[e];exact h2) h3 (by rw[e];exact h4);refine⟨t',l',b',x',d,a,j,i,?_⟩;rw[g,q06 h]
theorem CS{p:aO}{r c t l b x t' l' b' x':Nat}(hp:rect p r c)(h1:t<b)(h2:b<=r)(h3:l<x)(h4:x<=c)(k1:t'<b')(k2:b'<=b-t)(k3:l'<x')(k4:x'<=x-l):cut (cut p t l b x) t' l' b' x'=cut p (t+t') (l+l') (t+b') (l+x'):=by
 have a:=cB hp h1 h2 h3 h4;have g:=cB hp (show t+t'<t+b' by omega) ⋯ (show l+l'<l+x' by omega) ⋯;refine kG (cB a k1 k2 k3 k4) (r:=b'-t') (c:=x'-l') ?_ λi j e d=>?_
 ·rwa [show t+b'-(t+t')=b'-t' by omega,show l+x'-(l+l')=x'-l' by omega]at g
 ·rw[jD a k2 k4 e d,jD hp h2 h4 ⋯ ⋯,jD hp ⋯ ⋯ ⋯ ⋯]
  congr 1<;>omega
theorem qt{p:aO}{r c n:Nat}(hp:rect p r c):p.take n=cut p 0 0 n c:=by
 unfold cut;rw[KU,Nat.sub_zero,Nat.sub_zero]
 conv=>lhs;rw[<- List.map_id (p.take n)]
 refine q0K λy a=>?_;rw[KU,q0F (by rw[hp.2 y (q0H a)];exact Kj _)];rfl
theorem pT{p:aO}{r c n:Nat}(hp:rect p r c):p.drop n=cut p n 0 r c:=by
 unfold cut;rw[Nat.sub_zero,q0F (by rw[KC,hp.1];exact Kj _)]
 conv=>lhs;rw[<- List.map_id (p.drop n)]
 refine q0K λy a=>?_;rw[KU,q0F (by rw[hp.2 y (q0I a)];exact Kj _)];rfl
theorem qg{p:aO}{r c n:Nat}(hp:rect p r c):(p.map λy=>y.take n)=cut p 0 0 r n:=by
 unfold cut;rw[KU,Nat.sub_zero,Nat.sub_zero,q0F (by rw[hp.1];exact Kj _)]
 rfl
theorem pX{p:aO}{r c n:Nat}(hp:rect p r c):(p.map λy=>y.drop n)=cut p 0 n r c:=by
 unfold cut;rw[KU,Nat.sub_zero,q0F (by rw[hp.1];exact Kj _)];refine q0K λy a=>?_;rw[q0F (by rw[KC,hp.2 y a];exact Kj _)]
theorem bM.rect{p q:aO}{r c:Nat}(hp:rect p r c)(h:bM p r c q):∃r' c',rect q r' c'/\0<r'/\0<c'/\r'<=max r c/\c'<=max r c:=by
 obtain⟨t,l,b,x,u,h1,h2,e,d,h5,rfl⟩:=h;have a:=cB hp h1 h2 e d;exact⟨_,_,cF a ⋯ ⋯ u,by split<;>omega,by split<;>omega,by split<;>omega,by split<;>omega⟩
theorem bM.ns{p q:aO}{r c:Nat}(hp:aO.rect p r c)(hn:bU p)(h:bM p r c q):bU q:=by
 obtain⟨t,l,b,x,u,h1,h2,d,a,h5,rfl⟩:=h;exact(xD hp hn h1 h2 d a).2.1
theorem bM.turned{p q:aO}{r c u:Nat}(hp:aO.rect p r c)(h:bM p r c q)(hu:u<8):bM p r c (aO.turned q u):=by
 obtain⟨t,l,b,x,v,h1,h2,e,d,a,rfl⟩:=h;have g:=cB hp h1 h2 e d;exact⟨t,l,b,x,after v u,h1,h2,e,d,gL a hu,bX g ⋯ ⋯ a hu⟩
theorem bM.cut{p q:aO}{r c r' c' t l b x:Nat}(hp:aO.rect p r c)(h:bM p r c q)(hq:aO.rect q r' c')(h1:t<b)(h2:b<=r')(h3:l<x)(h4:x<=c'):bM p r c (Win.cut q t l b x):=by
 obtain⟨a,d,o,e,v,k,j,i,g,I,rfl⟩:=h;have n:=cB hp k j i g;have m:=cF n ⋯ ⋯ v;have J:r'=if v%2=0 then o-a else e-d:=by rw[<- hq.1,m.1]
 have L:c'=if v%2=0 then e-d else o-a:=by
  rw[<- bc hq ⋯,bc m (by split<;>omega)]
 obtain⟨y,G,M,w,m1,D,C,B,z⟩:=vW (u:=v) n h1 (by rw[<- J];exact h2) h3 (by rw[<- L];exact h4);rw[z,CS hp k j i g m1 D C B];exact⟨a+y,d+G,a+M,d+w,v,⋯,⋯,⋯,⋯,I,rfl⟩
end SnM
set_option maxHeartbeats 4000000
namespace Q22
open PySem L2 aO QL Win SnM
local macro_rules|`(tactic|walk_at "wp")=>do
 let f(s:String):Lean.MacroM _:=(s.splitOn ",").toArray.mapM λx=>let i:=Lean.mkIdent (x.splitOn "."|>.foldl .mkStr .anonymous);`(Lean.Parser.Tactic.simpLemma|$i:term)
 let g(s:String):Lean.MacroM _:=(s.splitOn ",").toArray.mapM λx=>let i:=Lean.mkIdent (x.splitOn "."|>.foldl .mkStr .anonymous);`(Lean.Parser.Tactic.simpLemma|↓$i:term)
 let c:="yC,tB,AH,w8,Eo,ug,yO,EW,zY,xf,Cz,tC,Ev,xG,DY,D_,GP,Ax,Br,wx,rH,r_,vz,wo,BO,Db,tm,zD,vG,wY,D6,CO,xF,pU,rS,Ai,D1,vq,rK,BA,nY,AW,Ek,sv,EI,D9,Ga,jz,nN,lV,GI,Dk,EG,GN,GA,D3,Gp,qW,A0,D4,DZ,FM,Go,tL,sj,Dj,BE,A4,Bo,Ad,GS,Cp,EX,xv,Az,ql,xj,L2.start,Kq,List.map_nil,J9,List.length_nil,List.replicate,List.cons_append,KN,Nat.reduceAdd,Nat.reduceSub,List.getElem?_cons_zero,Ko,List.set_cons_zero,List.set_cons_succ,tO,Cx.blk,tG,C7,AI,z_,Cx.wish,Cx.nox,E6,jx";let d<-f (c++",Ir,HB,Hw,Ij,JL,HA,Jx,HP,CL,D',BC,zH");let e<-f (c++",Kv,Option.some.injEq,V.int.injEq,V.str.injEq,V.ref.injEq,V.bl.injEq,List.cons.injEq,and_true,true_and,exists_and_left,exists_eq_left',exists_eq_left,decide_eq_true_eq,Bool.not_eq_true',decide_eq_false_iff_not,Dh,Option.join_some,Nat.succ_eq_add_one,Nat.zero_add,exists_const,and_assoc,exists_eq,exists_eq',Int.reducePow,Int.reduceNeg,Int.reduceLT,or_true,true_or,reduceCtorEq,Int.zero_add,Bool.false_eq_true,Bool.not_true,Bool.not_false,BL,DL,xL,xh,Bv,AB,Bb,yg,rI");let h<-g "reduceIte,Gr,Gq,Gw,GZ,GT,GV,GM,GG";let e:=e++h
 `(tactic|((try dsimp only[$d,*]);(try simp only[$e,*])))
set_option hygiene false in
local macro_rules|`(tactic|walk_at "nc")=>`(tactic|(clear h1;refine aq λN1 h1=>?_;walk_at "wp"))
set_option hygiene false in
local macro_rules|`(tactic|walk_at "n")=>`(tactic|(refine aq λN1 h1=>?_;walk_at "wp"))
set_option hygiene false in
local macro_rules|`(tactic|walk_at "oc")=>`(tactic|(clear h2;refine aq λN2 h2=>?_;walk_at "wp"))
set_option hygiene false in
local macro_rules|`(tactic|walk_at "o")=>`(tactic|(refine aq λN2 h2=>?_;walk_at "wp"))
set_option hygiene false in
local macro_rules|`(tactic|walk_at "f")=>`(tactic|refine F.ok sc (λvs H Q E h=>by cases h;subst_vars;rfl) (λcdv A outer s H vs Q E hr h=>?_))
set_option hygiene false in
local macro_rules|`(tactic|walk_at "c")=>`(tactic|exact⟨rfl,rfl,rfl,by decide +kernel,rfl,by decide +kernel,by decide +kernel⟩)
def fP(i:Nat):Stmt:=PySem.Challenge.pw_quiltlaw_k22_each_rule_holds.main.body.getD i (.Pass ⟨0,0,0,0⟩)
def Ce:Stmt->List Stmt
 | .ClassDef (body:=b) ..=>b
 |_=>[]
def jp(i j:Nat):Stmt:=(Ce (fP i)).getD j (.Pass ⟨0,0,0,0⟩)
section
variable {P:K6}{w:K9}{K:W.Frag}{mg:K4}{base:Heap}
abbrev FY(z:Str)(c:Nat):Bool:=!(Builtin.Str.occurrences z ⟨#[c]⟩ 0 z.length 1).isEmpty
abbrev kT:Stmt:=fP 33
def kb(r:K0)(z:Str):Bool:=r.all (FY z)
inductive hV(vs:List V)(H:Hp)(Q:VK)(_E:XK):Prop
 |mk (r:K0) (z:Str) (_:vs=[.str (tx r),.str z]) (_:r.length<=100000) (_:∀H',aB H H'->Q (.bl (kb r z)) H')
theorem vI:aE ["text","letters"] ["text","letters"] (av kT):=by walk_at "c"
theorem HU{r:K0}{i c:Nat}(h:(tx r).cps[i]?=some c):r[i]?=some c:=by
 rw[<- h];show r[i]?=r.toArray[i]?;simp
theorem GU(r:K0):(tx r).cps.size=r.length:=by show r.toArray.size=_;simp
theorem wf{f:Addr}{fd:K5}(F:dr K "only_of" "only_of" kT f fd)(nb:NB mg):br P w K mg base bD 1 f fd ["text","letters"] hV:=by
 have sc:=vI;walk_at "f"
 ·obtain⟨r,z,rfl,hr',q⟩:=h
  refine⟨_,(ag (aK (aA (tN rfl) rfl nb.all AC (ac (bZ ["sign"] [1] rfl (bE.of (by kernel_rfl)) (by kernel_rfl) (AL (am 0))
    (λ_ _ _ _=>(ay (i:=0) (by show(["sign","letters"]:List Str).Nodup;decide +kernel) rfl (Or.inl rfl))) (λ_ _ _ _=>bW) (λ_ _ _ _=>(sr zw (am 0) (am 1) (by with_unfolding_all rfl)))) ad)))),?_⟩
  walk_at "wp";refine uR (x:=tx r) (λi a σ d=>d=H/\a=((r.take i).map (FY z)).map V.bl/\i<=r.length/\∃x,σ=[x,some (.str z)]) ⟨rfl,rfl,Kk _,_,rfl⟩ ?_ ?_ ?_ ?_
  ·rintro i a σ d ⟨_,rfl,k,_⟩
   rw[JZ,JZ,KA];exact aX ⋯
  ·rintro i a σ d ⟨_,_,h,_⟩
   rw[GU];exact h
  ·rintro i c a σ d m ⟨rfl,rfl,k,y,rfl⟩
   have b:=HU m;have g:=(JX.mp b).1;walk_at "wp";refine⟨?_,g⟩;rw[q0E,b];simp
  ·rintro a σ d ⟨rfl,rfl,_⟩ l j
   refine⟨_,aN.of af,?_⟩;rw[GU,Kz];have e:(r.map (FY z)).all id=kb r z:=by unfold kb;rw[List.all_map];rfl
   rw[e];exact q _ (ak j)
abbrev lK:Stmt:=fP 34
abbrev EM:Str:="ABCDEFGHIJKLMNOPQRSTUVWXYZ"
def dD(r:K0):Bool:=decide (1<=r.length)&&decide (r.length<=4)&&kb r EM
inductive jL(vs:List V)(H:Hp)(Q:VK)(_E:XK):Prop
 |mk (r:K0) (_:vs=[.str (tx r)]) (_:r.length<=100000) (_:∀H',aB H H'->Q (.bl (dD r)) H')
theorem vH:aE ["text"] ["text"] (av lK):=by walk_at "c"
theorem wC{f:Addr}{fd:K5}{t1 t2:Tok}(F:dr K "is_name" "is_name" lK f fd)(nb:NB mg)(yao:mg "LONGEST_NAME"=some (.int 4 t1))(yar:mg "CAPITALS"=some (.str "ABCDEFGHIJKLMNOPQRSTUVWXYZ" t2))(yad:dG P w K mg base bD 1 "only_of" ["text","letters"] hV):br P w K mg base bD 2 f fd ["text"] jL:=by
 have sc:=vH;walk_at "f"
 ·obtain⟨r,rfl,a,q⟩:=h
  refine⟨_,(ag (aK (rM (uG (bj.m0 pZ) (bj.m0 pZ) ai (aA aT rfl nb.len aW (ac (am 0) ad)) (di (v:=.int 4) rfl yao ⟨_,rfl⟩)) (wO (q00 yad hr (ac (am 0) (ac (di (v:=.str "ABCDEFGHIJKLMNOPQRSTUVWXYZ") rfl yar ⟨_,rfl⟩) ad))))))),?_⟩;walk_at "wp";refine⟨by rw[ax];exact au ⋯,?_⟩;rw[ax];unfold dD at q
  by_cases h1:1<=r.length
  ·rw[q07 ⋯]
   by_cases h2:r.length<=4
   ·rw[q07 ⋯]
    refine⟨r,_,rfl,a,λc b=>?_⟩;have z:=q c b;rw[q09 h1,q09 h2]at z;exact z
   ·rw[q06 ⋯]
    have z:=q H (λ_ _ e=>e);rw[q09 h1,q08 h2]at z;exact z
  ·rw[q06 ⋯]
   have z:=q H (λ_ _ e=>e);rw[q08 h1]at z;exact z
abbrev fU:Stmt:=jp 35 0
inductive dl(K:W.Frag)(vs:List V)(H:Hp)(Q:VK)(_E:XK):Prop
 |mk (a C dx l:Addr) (n:K0) (c:Int) (ps:aO) (_:vs=[.ref a,.str (tx n),.int c,.ref l]) (_:H a=some (.ins C dx [])) (_:jv K C) (_:aF K C "name") (_:aF K C "cost") (_:aF K C "part_names") (_:H l=some (.lst (ao ps))) (_:ps.length<=1000) (_:(∀r∈n::ps,r.length<=100000)) (_:((∀r∈n::ps,dD r=true)/\1<=c/\c<=9)) (_:∀H',aB H H'->Q .non (aD H' a (.ins C dx [("name",.str (tx n)),("cost",.int c),("part_names",.ref l)])))
theorem eX{X:Cx}{st:Stmt}:PS X st (λ_ _ _=>False):=λ_ _ _ _ _ _ h=>h.elim
theorem qT:aE ["self","name","cost","part_names","text"] ["self","name","cost","part_names"] (av fU):=by walk_at "c"
theorem rq{f:Addr}{fd:K5}(F:dr K "__init__" "Rule.__init__" fU f fd)(nb:NB mg)(yaf:dG P w K mg base bD 2 "is_name" ["text"] jL):br P w K mg base bD 3 f fd ["self","name","cost","part_names"] (dl K):=by
 have sc:=qT;walk_at "f"
 ·obtain⟨a,C,G,l,n,c,b,rfl,U,I,R,O,M,T,hpl,j,ok,good⟩:=h
  refine⟨_,(ae (bg PassesOwn.never rfl (bi (aw qZ (bz (ac (am 1) ad)) (am 3))) (q02 4 sc.nd)
   (ag (bJ (fz (eS (q00 yaf hr (ac (am 4) ad)) λ_=>rfl))
   (ag eX)
   aV)))
   (ae (bJ (PW.pt (lU (aL (bj.m0 kn) (am 2) ai (aQ _)) (lC (aL (bj.m0 lY) (am 2) ai (aQ _)))))
   (ag eX)
   aV)
   (ae (cW (am 0) (am 1) rfl)
   (ae (cW (am 0) (am 2) rfl)
   (ag (cW (am 0) (am 3) rfl)))))),?_⟩
  walk_at "wp";refine⟨au ⋯,λp S=>?_⟩;have m1:aB H (aD H p (.lst [V.str (tx n)])):=ak S;have L:aD H p (.lst [V.str (tx n)]) p=some (.lst [V.str (tx n)]):=af;generalize aD H p (.lst [V.str (tx n)])=H1 at m1 L ⊢;refine⟨_,L,_,m1 _ _ T,by rw[aj];exact au (by simp;omega),λm z=>?_⟩;have D:[V.str (tx n)]++ao b=ao (n::b):=rfl;rw[D];have J:aB H1 (aD H1 m (.lst (ao (n::b)))):=ak z;have o:aD H1 m (.lst (ao (n::b))) m=some (.lst (ao (n::b))):=af;generalize aD H1 m (.lst (ao (n::b)))=H2 at J o ⊢;generalize hqs:n::b=qs at j ok o ⊢;have u:=m1.trans J;refine⟨⟨_,aN.of o⟩,bQ (xs:=ao qs) (λi σ k=>aB H2 k/\∃x,σ=[some (.ref a),some (.str (tx n)),some (.int c),some (.ref l),x]) ⟨λ_ _ e=>e,_,rfl⟩ (λi σ k _ h=>aN.of (h.1 _ _ o)) ?_ ?_⟩
  ·rintro i v σ k y ⟨r,x,rfl⟩
   have B:i<qs.length:=by have:=(JX.mp y).1;rwa [aj]at this
   rw[ba B]at y;cases y;walk_at "wp";refine⟨_,rfl,j _ (J6 B),λH3 q=>⟨_,rfl,?_⟩⟩;rw[q06 (by rw[ok.1 _ (J6 B)];decide)];exact r.trans q
  ·rintro σ k ⟨r,x,rfl⟩
   have d:=u.trans r;walk_at "wp";rw[q06 ⋯,q06 ⋯];have g:=good k d;have l1:(cJ "name" (V.str (tx n)) []).length<=1:=c8 _ _ _;have l2:(cJ "cost" (V.int c) (cJ "name" (V.str (tx n)) [])).length<=2:=Ks (c8 _ _ _) ⋯;have d1:¬ (("name":Str)="cost"):=by decide +kernel
   have Z:¬ (("name":Str)="part_names"):=by decide +kernel
   have Y:¬ (("cost":Str)="part_names"):=by decide +kernel
   have e:cJ "part_names" (V.ref l) (cJ "cost" (V.int c) (cJ "name" (V.str (tx n)) []))=[(("name":Str),V.str (tx n)),(("cost":Str),V.int c),(("part_names":Str),V.ref l)]:=by
    simp only[cJ,q06 d1,q06 Z,q06 Y]
   refine⟨C,G,[],d _ _ U,I,R,by simp,C,G,_,af,I,O,⋯,C,G,_,af,I,M,⋯,?_⟩;rw[j5,j5,e];exact g
def bh(a:Addr)(H H':Hp):Prop:=∀b o,b≠a->H b=some o->H' b=some o
theorem bh.of{a:Addr}{H H':Hp}(s:aB H H'):bh a H H':=λb o _ e=>s b o e
theorem bh.put{a:Addr}{H H':Hp}{o:HO}(s:bh a H H'):bh a H (aD H' a o):=λb u hb e=>by rw[ar hb];exact s b u hb e
theorem bh.then{a:Addr}{H H' H2:Hp}(s:bh a H H')(t:aB H' H2):bh a H H2:=λb u hb e=>t b u (s b u hb e)
theorem bh.trans{a:Addr}{H H' H2:Hp}(s:bh a H H')(t:bh a H' H2):bh a H H2:=λb u hb e=>t b u hb (s b u hb e)
abbrev Fw:Str:="abcdefghijklmnopqrstuvwxyz"
def iw(r:K0):Bool:=decide (r.length=1)&&kb r Fw
def jU(n:K0)(ps:aO)(c:Int):Prop:=(∀r∈n::ps,dD r=true)/\1<=c/\c<=9
abbrev gc:Stmt:=jp 36 0
inductive gX(K:W.Frag)(vs:List V)(H:Hp)(Q:VK)(_E:XK):Prop
 |mk (a C dx:Addr) (n sg:K0) (c:Int) (_:vs=[.ref a,.str (tx n),.int c,.str (tx sg)]) (_:H a=some (.ins C dx [])) (_:jv K C) (_:(aF K C "name"/\aF K C "cost"/\aF K C "part_names"/\aF K C "sign")) (_:n.length<=100000) (_:sg.length<=100000) (_:(jU n [] c/\iw sg=true)) (_:∀(l:Addr) (H':Hp),bh a H H'->H l=none->H' l=some (.lst [])->H' a=some (.ins C dx [("name",.str (tx n)),("cost",.int c),("part_names",.ref l),("sign",.str (tx sg))])->Q .non H')
theorem tj:aE ["self","name","cost","sign"] ["self","name","cost","sign"] (av gc):=by walk_at "c"
theorem tD{f:Addr}{fd:K5}{t3:Tok}(F:dr K "__init__" "CellRule.__init__" gc f fd)(nb:NB mg)(yaj:mg "SMALLS"=some (.str "abcdefghijklmnopqrstuvwxyz" t3))
  (yad:dG P w K mg base bD 1 "only_of" ["text","letters"] hV) (zfa:yB P w K mg base bD 3 "Rule" "__init__" ["self","name","cost","part_names"] (dl K)):br P w K mg base bD 4 f fd ["self","name","cost","sign"] (gX K):=by
 have sc:=tj;walk_at "f"
 ·obtain⟨a,C,d,n,i,c,rfl,u,z,⟨I,G,D,B⟩,J,o,⟨ok,m⟩,good⟩:=h
  refine⟨_,(ae (bo (mP zfa (hr.mono (by decide)) rfl aJ (ac (am 0) (ac (am 1) (ac (am 2) (ac (bz ad) ad))))))
   (ae (bJ (PW.pt (lU (aL DJ (aA aT rfl nb.len aW (ac (am 3) ad)) ai (aQ _)) (lC (fz (eS (q00 yad hr (ac (am 3) (ac (di (v:=.str "abcdefghijklmnopqrstuvwxyz") rfl yaj ⟨_,rfl⟩) ad))) λ_=>rfl)))))
   (ag eX)
   aV)
   (ag (cW (am 0) (am 3) rfl)))),?_⟩
  walk_at "wp";refine⟨Kk _,λl k=>?_⟩;have m1:aB H (aD H l (.lst [])):=ak k;have p:aD H l (.lst []) l=some (.lst []):=af;generalize aD H l (.lst [])=H1 at m1 p ⊢;have j:l≠a:=λe=>by rw[e,u]at k;cases k
  refine⟨a,C,d,l,n,c,[],rfl,m1 _ _ u,z,I,G,D,p,by simp,λr hr=>by rw[show r=n by simpa using hr];exact J,ok,λH2 g=>?_⟩;have q:bh a H (aD H2 a (.ins C d [("name",.str (tx n)),("cost",.int c),("part_names",.ref l)])):=(bh.of (m1.trans g)).put;have y:aD H2 a (.ins C d [("name",.str (tx n)),("cost",.int c),("part_names",.ref l)]) a=some (.ins C d [("name",.str (tx n)),("cost",.int c),("part_names",.ref l)]):=af;have x:aD H2 a (.ins C d [("name",.str (tx n)),("cost",.int c),("part_names",.ref l)]) l=some (.lst []):=by rw[ar j];exact g _ _ p
  generalize aD H2 a (.ins C d [("name",.str (tx n)),("cost",.int c),("part_names",.ref l)])=H3 at q y x ⊢
  try dsimp only
  obtain⟨h1,L⟩:i.length=1/\kb i Fw=true:=by
   have h:=m;unfold iw at h;rw[q0O,q0b]at h;exact h
  refine⟨by rw[ax];exact au ⋯,?_⟩;rw[ax,q06 (λh=>h ⋯)];refine⟨i,_,rfl,o,λH4 b=>⟨_,rfl,?_⟩⟩;rw[q06 (by rw[L];decide)];have R:¬ (("name":Str)="sign"):=by decide +kernel
  have O:¬ (("cost":Str)="sign"):=by decide +kernel
  have M:¬ (("part_names":Str)="sign"):=by decide +kernel
  have e:cJ "sign" (V.str (tx i)) [(("name":Str),V.str (tx n)),(("cost":Str),V.int c),(("part_names":Str),V.ref l)]=[(("name":Str),V.str (tx n)),(("cost":Str),V.int c),(("part_names":Str),V.ref l),(("sign":Str),V.str (tx i))]:=by
   simp only[cJ,q06 R,q06 O,q06 M]
  refine⟨C,d,_,b _ _ y,z,B,by simp,?_⟩;rw[e];exact good l _ (q.then b).put k (by rw[ar j];exact b _ _ x) af
inductive dh(K:W.Frag)(vs:List V)(H:Hp)(Q:VK)(_E:XK):Prop
 |mk (a C dx:Addr) (n o1 o2:K0) (c:Int) (_:vs=[.ref a,.str (tx n),.int c,.str (tx o1),.str (tx o2)]) (_:H a=some (.ins C dx [])) (_:jv K C) (_:(aF K C "name"/\aF K C "cost"/\aF K C "part_names"/\aF K C "one"/\aF K C "other")) (_:n.length<=100000) (_:o1.length<=100000) (_:o2.length<=100000) (_:jU n [o1,o2] c) (_:∀(l:Addr) (H':Hp),bh a H H'->H l=none->H' l=some (.lst (ao [o1,o2]))->H' a=some (.ins C dx [("name",.str (tx n)),("cost",.int c),("part_names",.ref l),("one",.str (tx o1)),("other",.str (tx o2))])->Q .non H')
theorem tP{n o1 o2:K0}{c:Int}{l:Addr}:cJ "other" (V.str (tx o2)) (cJ "one" (V.str (tx o1)) [(("name":Str),V.str (tx n)),(("cost":Str),V.int c),(("part_names":Str),V.ref l)])=[(("name":Str),V.str (tx n)),(("cost":Str),V.int c),(("part_names":Str),V.ref l),(("one":Str),V.str (tx o1)),(("other":Str),V.str (tx o2))]:=by
 have j:¬ (("name":Str)="one"):=by decide +kernel
 have i:¬ (("cost":Str)="one"):=by decide +kernel
 have g:¬ (("part_names":Str)="one"):=by decide +kernel
 have e:¬ (("name":Str)="other"):=by decide +kernel
 have d:¬ (("cost":Str)="other"):=by decide +kernel
 have b:¬ (("part_names":Str)="other"):=by decide +kernel
 have a:¬ (("one":Str)="other"):=by decide +kernel
 simp only[cJ,q06 j,q06 i,q06 g,q06 e,q06 d,q06 b,q06 a]
abbrev eB:Stmt:=jp 37 0
theorem oO:aE ["self","name","cost","one","other"] ["self","name","cost","one","other"] (av eB):=by walk_at "c"
theorem n_{f:Addr}{fd:K5}(F:dr K "__init__" "BesideRule.__init__" eB f fd)(nb:NB mg)
  (zfa:yB P w K mg base bD 3 "Rule" "__init__" ["self","name","cost","part_names"] (dl K)):br P w K mg base bD 4 f fd ["self","name","cost","one","other"] (dh K):=by
 have sc:=oO;walk_at "f"
 ·obtain⟨a,C,b,n,g,d,c,rfl,v,q,⟨I,G,D,B,z⟩,J,o,m,ok,good⟩:=h
  refine⟨_,(ae (bo (mP zfa (hr.mono (by decide)) rfl aJ (ac (am 0) (ac (am 1) (ac (am 2) (ac (bz (ac (am 3) (ac (am 4) ad))) ad))))))
   (ae (cW (am 0) (am 3) rfl)
   (ag (cW (am 0) (am 4) rfl)))),?_⟩
  walk_at "wp";refine⟨au ⋯,λl k=>?_⟩;have m1:aB H (aD H l (.lst [V.str (tx g),V.str (tx d)])):=ak k;have p:aD H l (.lst [V.str (tx g),V.str (tx d)]) l=some (.lst (ao [g,d])):=af;generalize aD H l (.lst [V.str (tx g),V.str (tx d)])=H1 at m1 p ⊢;have j:l≠a:=λe=>by rw[e,v]at k;cases k
  refine⟨a,C,b,l,n,c,[g,d],rfl,m1 _ _ v,q,I,G,D,p,by simp,λr hr=>?_,ok,λH2 i=>?_⟩
  ·have L:r=n\/r=g\/r=d:=by simpa using hr
   rcases L with rfl | rfl | rfl
   ·exact J
   ·exact o
   ·exact m
  ·have u:bh a H (aD H2 a (.ins C b [("name",.str (tx n)),("cost",.int c),("part_names",.ref l)])):=(bh.of (m1.trans i)).put
   have y:aD H2 a (.ins C b [("name",.str (tx n)),("cost",.int c),("part_names",.ref l)]) a=some (.ins C b [("name",.str (tx n)),("cost",.int c),("part_names",.ref l)]):=af;have x:aD H2 a (.ins C b [("name",.str (tx n)),("cost",.int c),("part_names",.ref l)]) l=some (.lst (ao [g,d])):=by rw[ar j];exact i _ _ p
   generalize aD H2 a (.ins C b [("name",.str (tx n)),("cost",.int c),("part_names",.ref l)])=H3 at u y x ⊢
   try dsimp only
   refine⟨C,b,_,y,q,B,by simp,C,b,_,af,q,z,?_,?_⟩
   ·exact KG (c8 _ _ _) (by simp)
   ·rw[j5,tP]
    exact good l _ u.put k (by rw[ar j];exact x) af
abbrev fj:Stmt:=jp 38 0
theorem ph:aE ["self","name","cost","one","other"] ["self","name","cost","one","other"] (av fj):=by walk_at "c"
theorem pp{f:Addr}{fd:K5}(F:dr K "__init__" "AboveRule.__init__" fj f fd)(nb:NB mg)
  (zfa:yB P w K mg base bD 3 "Rule" "__init__" ["self","name","cost","part_names"] (dl K)):br P w K mg base bD 4 f fd ["self","name","cost","one","other"] (dh K):=by
 have sc:=ph;walk_at "f"
 ·obtain⟨a,C,b,n,g,d,c,rfl,v,q,⟨I,G,D,B,z⟩,J,o,m,ok,good⟩:=h
  refine⟨_,(ae (bo (mP zfa (hr.mono (by decide)) rfl aJ (ac (am 0) (ac (am 1) (ac (am 2) (ac (bz (ac (am 3) (ac (am 4) ad))) ad))))))
   (ae (cW (am 0) (am 3) rfl)
   (ag (cW (am 0) (am 4) rfl)))),?_⟩
  walk_at "wp";refine⟨au ⋯,λl k=>?_⟩;have m1:aB H (aD H l (.lst [V.str (tx g),V.str (tx d)])):=ak k;have p:aD H l (.lst [V.str (tx g),V.str (tx d)]) l=some (.lst (ao [g,d])):=af;generalize aD H l (.lst [V.str (tx g),V.str (tx d)])=H1 at m1 p ⊢;have j:l≠a:=λe=>by rw[e,v]at k;cases k
  refine⟨a,C,b,l,n,c,[g,d],rfl,m1 _ _ v,q,I,G,D,p,by simp,λr hr=>?_,ok,λH2 i=>?_⟩
  ·have L:r=n\/r=g\/r=d:=by simpa using hr
   rcases L with rfl | rfl | rfl
   ·exact J
   ·exact o
   ·exact m
  ·have u:bh a H (aD H2 a (.ins C b [("name",.str (tx n)),("cost",.int c),("part_names",.ref l)])):=(bh.of (m1.trans i)).put
   have y:aD H2 a (.ins C b [("name",.str (tx n)),("cost",.int c),("part_names",.ref l)]) a=some (.ins C b [("name",.str (tx n)),("cost",.int c),("part_names",.ref l)]):=af;have x:aD H2 a (.ins C b [("name",.str (tx n)),("cost",.int c),("part_names",.ref l)]) l=some (.lst (ao [g,d])):=by rw[ar j];exact i _ _ p
   generalize aD H2 a (.ins C b [("name",.str (tx n)),("cost",.int c),("part_names",.ref l)])=H3 at u y x ⊢
   try dsimp only
   refine⟨C,b,_,y,q,B,by simp,C,b,_,af,q,z,?_,?_⟩
   ·exact KG (c8 _ _ _) (by simp)
   ·rw[j5,tP]
    exact good l _ u.put k (by rw[ar j];exact x) af
inductive ie(K:W.Frag)(vs:List V)(H:Hp)(Q:VK)(_E:XK):Prop
 |mk (a C dx:Addr) (n o1:K0) (c t:Int) (_:vs=[.ref a,.str (tx n),.int c,.str (tx o1),.int t]) (_:H a=some (.ins C dx [])) (_:jv K C) (_:(aF K C "name"/\aF K C "cost"/\aF K C "part_names"/\aF K C "part"/\aF K C "turning")) (_:n.length<=100000) (_:o1.length<=100000) (_:(jU n [o1] c/\0<=t/\t<=7)) (_:∀(l:Addr) (H':Hp),bh a H H'->H l=none->H' l=some (.lst (ao [o1]))->H' a=some (.ins C dx [("name",.str (tx n)),("cost",.int c),("part_names",.ref l),("part",.str (tx o1)),("turning",.int t)])->Q .non H')
theorem By{n o1:K0}{c t:Int}{l:Addr}:cJ "turning" (V.int t) (cJ "part" (V.str (tx o1)) [(("name":Str),V.str (tx n)),(("cost":Str),V.int c),(("part_names":Str),V.ref l)])=[(("name":Str),V.str (tx n)),(("cost":Str),V.int c),(("part_names":Str),V.ref l),(("part":Str),V.str (tx o1)),(("turning":Str),V.int t)]:=by
 have j:¬ (("name":Str)="part"):=by decide +kernel
 have i:¬ (("cost":Str)="part"):=by decide +kernel
 have g:¬ (("part_names":Str)="part"):=by decide +kernel
 have e:¬ (("name":Str)="turning"):=by decide +kernel
 have d:¬ (("cost":Str)="turning"):=by decide +kernel
 have b:¬ (("part_names":Str)="turning"):=by decide +kernel
 have a:¬ (("part":Str)="turning"):=by decide +kernel
 simp only[cJ,q06 j,q06 i,q06 g,q06 e,q06 d,q06 b,q06 a]
abbrev gb:Stmt:=jp 39 0
theorem rN:aE ["self","name","cost","part","turning"] ["self","name","cost","part","turning"] (av gb):=by walk_at "c"
theorem s_{f:Addr}{fd:K5}(F:dr K "__init__" "TurnRule.__init__" gb f fd)(nb:NB mg)
  (zfa:yB P w K mg base bD 3 "Rule" "__init__" ["self","name","cost","part_names"] (dl K)):br P w K mg base bD 4 f fd ["self","name","cost","part","turning"] (ie K):=by
 have sc:=rN;walk_at "f"
 ·obtain⟨a,C,b,n,d,c,t,rfl,q,o,⟨D,B,z,y,x⟩,G,k,⟨ok,t0,t7⟩,good⟩:=h
  refine⟨_,(ae (bo (mP zfa (hr.mono (by decide)) rfl aJ (ac (am 0) (ac (am 1) (ac (am 2) (ac (bz (ac (am 3) ad)) ad))))))
   (ae (bJ (PW.pt (lU (aL (bj.m0 kn) (am 4) ai (aQ _)) (lC (aL (bj.m0 lY) (am 4) ai (aQ _)))))
   (ag eX)
   aV)
   (ae (cW (am 0) (am 3) rfl)
   (ag (cW (am 0) (am 4) rfl))))),?_⟩
  walk_at "wp";refine⟨au ⋯,λl j=>?_⟩;have m1:aB H (aD H l (.lst [V.str (tx d)])):=ak j;have m:aD H l (.lst [V.str (tx d)]) l=some (.lst (ao [d])):=af;generalize aD H l (.lst [V.str (tx d)])=H1 at m1 m ⊢;have i:l≠a:=λe=>by rw[e,q]at j;cases j
  refine⟨a,C,b,l,n,c,[d],rfl,m1 _ _ q,o,D,B,z,m,by simp,λr hr=>?_,ok,λH2 g=>?_⟩
  ·have I:r=n\/r=d:=by simpa using hr
   rcases I with rfl | rfl
   ·exact G
   ·exact k
  ·have p:bh a H (aD H2 a (.ins C b [("name",.str (tx n)),("cost",.int c),("part_names",.ref l)])):=(bh.of (m1.trans g)).put
   have v:aD H2 a (.ins C b [("name",.str (tx n)),("cost",.int c),("part_names",.ref l)]) a=some (.ins C b [("name",.str (tx n)),("cost",.int c),("part_names",.ref l)]):=af;have u:aD H2 a (.ins C b [("name",.str (tx n)),("cost",.int c),("part_names",.ref l)]) l=some (.lst (ao [d])):=by rw[ar i];exact g _ _ m
   generalize aD H2 a (.ins C b [("name",.str (tx n)),("cost",.int c),("part_names",.ref l)])=H3 at p v u ⊢
   try dsimp only
   rw[q06 ⋯,q06 ⋯];refine⟨C,b,_,v,o,y,by simp,C,b,_,af,o,x,?_,?_⟩
   ·exact KG (c8 _ _ _) (by simp)
   ·rw[j5,By]
    exact good l _ p.put j (by rw[ar i];exact u) af
abbrev fe:Stmt:=jp 35 1
inductive cK(K:W.Frag)(vs:List V)(H:Hp)(Q:VK)(_E:XK):Prop
 |mk (a C dx l:Addr) (fs:List (Str×V)) (ps:aO) (_:vs=[.ref a]) (_:H a=some (.ins C dx fs)) (_:jv K C) (_:aF K C "part_names") (_:fs.lookup ("part_names":Str)=some (V.ref l)) (_:H l=some (.lst (ao ps))) (_:gH H ps Q)
theorem pM:aE ["self"] ["self"] (av fe):=by walk_at "c"
theorem d8{f:Addr}{fd:K5}(F:dr K "parts" "Rule.parts" fe f fd)(nb:NB mg):br P w K mg base bD 1 f fd ["self"] (cK K):=by
 have sc:=pM;walk_at "f"
 ·obtain⟨a,C,j,l,fs,ps,rfl,i,k,c,d,g,q⟩:=h
  refine⟨_,(ag (aK (cU cI rfl nb.list fq (ac (cC (am 0) rfl) ad)))),?_⟩;walk_at "wp";refine⟨C,j,fs,i,k,c,V.ref l,d,l,rfl,_,.inl (aN.of g),λe b=>q e _ b af (ak b)⟩
abbrev FB(n:K0)(c:Int)(l:Addr)(sg:K0):List (Str×V):=[("name",.str (tx n)),("cost",.int c),("part_names",.ref l),("sign",.str (tx sg))]
abbrev DC(n:K0)(c:Int)(l:Addr)(o1 o2:K0):List (Str×V):=[("name",.str (tx n)),("cost",.int c),("part_names",.ref l),("one",.str (tx o1)),("other",.str (tx o2))]
abbrev Du(n:K0)(c:Int)(l:Addr)(o1:K0)(t:Int):List (Str×V):=[("name",.str (tx n)),("cost",.int c),("part_names",.ref l),("part",.str (tx o1)),("turning",.int t)]
theorem i6{r:K0}(h:dD r=true):1<=r.length/\r.length<=4:=by
 unfold dD at h;rw[q0O,q0O,q0b,q0b]at h;exact h.1
theorem yV{r:K0}(h:iw r=true):r.length=1:=by
 unfold iw at h;rw[q0O,q0b]at h;exact h.1
theorem aq{a b:TS}{D:g_}{σ:St}{H:Hp}(h:∀N:St->Hp->Prop,(∀σ2 H2,b D σ2 H2->N σ2 H2)->a {D with nx:=N} σ H):yC a b D σ H:=h (b D) λ_ _ z=>z
abbrev lx:Stmt:=fP 57
inductive mY(vs:List V)(H:Hp)(Q:VK)(_E:XK):Prop
 |mk (i:Int) (_:vs=[.int i]) (_:Q (.bl true) H)
theorem wW:aE ["_law_x"] ["_law_x"] (av lx):=by walk_at "c"
theorem v9{f:Addr}{fd:K5}(F:dr K "_law_whole" "_law_whole" lx f fd)(nb:NB mg):br P w K mg base bD 1 f fd ["_law_x"] mY:=by
 have sc:=wW;walk_at "f"
 ·obtain⟨i,rfl,q⟩:=h
  refine⟨_,(ag (aK (rM (aA b5 rfl nb.isinstance b_ (ac (am 0) (ac (iZ (v:=.ty "int") rfl nb.int BN rfl) ad))) (wO (Es (aA b5 rfl nb.isinstance b_ (ac (am 0) (ac (iZ (v:=.ty "bool") rfl nb.bool Co rfl) ad)))))))),?_⟩;walk_at "wp";refine⟨_,jq.int i,_,iH K _,?_⟩;walk_at "wp";refine⟨_,jq.int i,_,qY K,?_⟩;exact q
structure RV where
 n:List Nat
 c:Int
 o1:List Nat
 o2:List Nat
 sg:List Nat
 t:Int
abbrev Yaa:=List (Nat×RV)
structure RC where
 rr:Addr
 cc:Addr
 cb:Addr
 ca:Addr
 ct:Addr
def RC.at(R:RC)(k:Nat):Addr:=match k with | 0=>R.cc | 1=>R.cb | 2=>R.ca | _=>R.ct
def tH(k:Nat)(l:Addr)(v:RV):List (Str×V):=match k with | 0=>FB v.n v.c l v.sg | 1=>DC v.n v.c l v.o1 v.o2 | 2=>DC v.n v.c l v.o1 v.o2 | _=>Du v.n v.c l v.o1 v.t
def cw(k:Nat)(v:RV):aO:=match k with | 0=>[] | 1=>[v.o1,v.o2] | 2=>[v.o1,v.o2] | _=>[v.o1]
def I9(k:Nat)(v:RV):Prop:=match k with | 0=>jU v.n [] v.c/\iw v.sg=true | 1=>jU v.n [v.o1,v.o2] v.c | 2=>jU v.n [v.o1,v.o2] v.c | _=>jU v.n [v.o1] v.c/\0<=v.t/\v.t<=7
structure RV.small(v:RV):Prop where
 n:v.n.length<=1000
 o1:v.o1.length<=1000
 o2:v.o2.length<=1000
 sg:v.sg.length<=1000
structure RV.good(v:RV):Prop where
 n:dD v.n=true
 c1:1<=v.c
 c9:v.c<=9
 o1:dD v.o1=true
 o2:dD v.o2=true
 sg:iw v.sg=true
 t0:0<=v.t
 t7:v.t<=7
theorem RV.good.small{v:RV}(g:v.good):v.small:=⟨by have:=i6 g.n;omega,by have:=i6 g.o1;omega,by have:=i6 g.o2;omega,by have:=yV g.sg;omega⟩
theorem RV.good.ok{v:RV}(g:v.good):∀k,I9 k v
 |0=>⟨⟨λr hr=>by rw[show r=v.n by simpa using hr];exact g.n,g.c1,g.c9⟩,g.sg⟩
 |1=>⟨λr hr=>by rcases(show r=v.n\/r=v.o1\/r=v.o2 by simpa using hr) with rfl | rfl | rfl<;>first | exact g.n | exact g.o1 | exact g.o2,g.c1,g.c9⟩
 |2=>⟨λr hr=>by rcases(show r=v.n\/r=v.o1\/r=v.o2 by simpa using hr) with rfl | rfl | rfl<;>first | exact g.n | exact g.o1 | exact g.o2,g.c1,g.c9⟩
 |_+3=>⟨⟨λr hr=>by rcases(show r=v.n\/r=v.o1 by simpa using hr) with rfl | rfl<;>first | exact g.n | exact g.o1,g.c1,g.c9⟩,g.t0,g.t7⟩
def gm(R:RC)(H:Hp)(k:Nat)(a:Addr)(v:RV):Prop:=∃dx l,H a=some (.ins (R.at k) dx (tH k l v))/\H l=some (.lst (ao (cw k v)))
theorem gm.up{R:RC}{H H':Hp}{k:Nat}{a:Addr}{v:RV}(r:gm R H k a v)(s:aB H H'):gm R H' k a v:=by
 obtain⟨b,l,h1,h2⟩:=r;exact⟨b,l,s _ _ h1,s _ _ h2⟩
structure lI(K:W.Frag)(R:RC):Prop where
 i0:jn K R.cc
 i1:jn K R.cb
 i2:jn K R.ca
 i3:jn K R.ct
 a0:aF K R.cc "name"/\aF K R.cc "cost"/\aF K R.cc "part_names"/\aF K R.cc "sign"
 a1:aF K R.cb "name"/\aF K R.cb "cost"/\aF K R.cb "part_names"/\aF K R.cb "one"/\aF K R.cb "other"
 a2:aF K R.ca "name"/\aF K R.ca "cost"/\aF K R.ca "part_names"/\aF K R.ca "one"/\aF K R.ca "other"
 a3:aF K R.ct "name"/\aF K R.ct "cost"/\aF K R.ct "part_names"/\aF K R.ct "part"/\aF K R.ct "turning"
 r0:W.kitOne K (.ref R.cc) (.ref R.rr)=some true
 r1:W.kitOne K (.ref R.cb) (.ref R.rr)=some true
 r2:W.kitOne K (.ref R.ca) (.ref R.rr)=some true
 r3:W.kitOne K (.ref R.ct) (.ref R.rr)=some true
 s0:W.kitOne K (.ref R.cc) (.ref R.cc)=some true
 s1:W.kitOne K (.ref R.cb) (.ref R.cb)=some true
 s2:W.kitOne K (.ref R.ca) (.ref R.ca)=some true
 s3:W.kitOne K (.ref R.ct) (.ref R.ct)=some true
theorem lI.icls{R:RC}(rk:lI K R):∀k,jn K (R.at k)
 |0=>rk.i0
 |1=>rk.i1
 |2=>rk.i2
 |_+3=>rk.i3
theorem lI.name{R:RC}(rk:lI K R):∀k,aF K (R.at k) "name"/\aF K (R.at k) "cost"/\aF K (R.at k) "part_names"
 |0=>⟨rk.a0.1,rk.a0.2.1,rk.a0.2.2.1⟩
 |1=>⟨rk.a1.1,rk.a1.2.1,rk.a1.2.2.1⟩
 |2=>⟨rk.a2.1,rk.a2.2.1,rk.a2.2.2.1⟩
 |_+3=>⟨rk.a3.1,rk.a3.2.1,rk.a3.2.2.1⟩
theorem jd(l:Addr)(v:RV):∀k,(tH k l v).lookup ("name":Str)=some (V.str (tx v.n))/\(tH k l v).lookup ("cost":Str)=some (V.int v.c)/\(tH k l v).lookup ("part_names":Str)=some (V.ref l)/\(tH k l v).lookup ("parts":Str)=none/\(tH k l v).lookup ("told":Str)=none
 |0=>⟨rfl,rfl,rfl,rfl,rfl⟩
 |1=>⟨rfl,rfl,rfl,rfl,rfl⟩
 |2=>⟨rfl,rfl,rfl,rfl,rfl⟩
 |_+3=>⟨rfl,rfl,rfl,rfl,rfl⟩
theorem i'{H1 H2:Hp}{x dx:Addr}{o o':HO}(hx:H1 x=none)(hd:H1 dx=none)(s:bh x (aD (aD H1 dx o) x o') H2):aB H1 H2:=
 λb u e=>s b u (aI e hx) (by rw[ar (aI e hx),ar (aI e hd)];exact e)
theorem DN{CX:j4}{k:Nat}{m:Str}{C0 C1 C2 C3:Addr}{s0 s1 s2 s3:Sp}(h0:∃ps,jk P w K mg base CX k C0 m ps s0)(h1:∃ps,jk P w K mg base CX k C1 m ps s1)(h2:∃ps,jk P w K mg base CX k C2 m ps s2)(h3:∃ps,jk P w K mg base CX k C3 m ps s3) :
  vX P w K mg base CX k m [(C0,s0),(C1,s1),(C2,s2),(C3,s3)]:=⟨λo ho=>by
 simp only[Kb,List.not_mem_nil,or_false]at ho;rcases ho with rfl | rfl | rfl | rfl
 ·exact h0
 ·exact h1
 ·exact h2
 ·exact h3⟩
def nE(K:W.Frag)(R:RC):List (Addr×Sp):=[(R.cc,cK K),(R.cb,cK K),(R.ca,cK K),(R.ct,cK K)]
theorem ye{R:RC}{H:Hp}{k a}{v:RV}{Q:VK}{E:XK}(rk:lI K R)(r:gm R H k a v)(q:gH H (cw k v) Q) :
  ∃o∈nE K R,∃dx fs,H a=some (.ins o.1 dx fs)/\fs.lookup ("parts":Str)=none/\o.2 [.ref a] H Q E:=by
 obtain⟨dx,l,h1,h2⟩:=r;have c:cK K [.ref a] H Q E:=⟨a,R.at k,dx,l,_,_,rfl,h1,(rk.icls k).cl,(rk.name k).2.2,(jd l v k).2.2.1,h2,q⟩;have b:(R.at k,cK K)∈nE K R:=by
  unfold nE
  match k with
  |0=>simp[RC.at]
  |1=>simp[RC.at]
  |2=>simp[RC.at]
  |_+3=>simp[RC.at]
 exact⟨_,b,dx,_,h1,(jd l v k).2.2.2.1,c⟩
abbrev iL:Stmt:=fP 46
abbrev tX:Str:="abcdefghijklmnopqrstuvwxyz"
def iI(r:K0):Bool:=decide (1<=r.length)&&decide (r.length<=4)&&kb r tX&&decide ((met (dk (tx r))).length=r.length)
inductive kr(vs:List V)(H:Hp)(Q:VK)(_E:XK):Prop
 |mk (r:K0) (_:vs=[.str (tx r)]) (_:r.length<=1000) (_:∀H',aB H H'->Q (.bl (iI r)) H')
theorem rn:aE ["text"] ["text"] (av iL):=by walk_at "c"
theorem sJ{f:Addr}{fd:K5}{t1 t2:Tok}(F:dr K "are_signs" "are_signs" iL f fd)(nb:NB mg)(yas:mg "MOST_SIGNS"=some (.int 4 t1))(yaj:mg "SMALLS"=some (.str "abcdefghijklmnopqrstuvwxyz" t2))(yad:dG P w K mg base bD 1 "only_of" ["text","letters"] hV):br P w K mg base bD 2 f fd ["text"] kr:=by
 have sc:=rn;walk_at "f"
 ·obtain⟨r,rfl,hr',q⟩:=h
  refine⟨_,(ag (aK (rM (uG (bj.m0 pZ) (bj.m0 pZ) ai (aA aT rfl nb.len aW (ac (am 0) ad)) (di (v:=.int 4) rfl yas ⟨_,rfl⟩)) (rM (q00 yad hr (ac (am 0) (ac (di (v:=.str "abcdefghijklmnopqrstuvwxyz") rfl yaj ⟨_,rfl⟩) ad))) (wO (sr dm (yR rfl (am 0) rfl nb.len rfl nb.set) (aA aT rfl nb.len aW (ac (am 0) ad)) (aQ _))))))),?_⟩;walk_at "wp";refine⟨by rw[ax];exact au ⋯,?_⟩;rw[ax];unfold iI at q
  by_cases h1:1<=r.length
  ·rw[q07 ⋯]
   by_cases h2:r.length<=4
   ·rw[q07 ⋯]
    refine⟨r,_,rfl,⋯,λc b=>⟨_,rfl,?_⟩⟩;have z:=q c b;rw[q09 h1,q09 h2]at z;cases a:kb r tX with
    |false=>
     rw[a]at z;rw[q06 (by simp)];exact z
    |true=>
     rw[a]at z;rw[q07 rfl];refine⟨by rw[GU];unfold scanBound;omega,by exact au ⋯,?_⟩;have e:decide (((met (dk (tx r))).length:Int)=(r.length:Int))=decide ((met (dk (tx r))).length=r.length):=by
      apply decide_eq_decide.mpr
      constructor<;>intro h<;>omega
     rw[e];exact z
   ·rw[q06 ⋯]
    have z:=q H (λ_ _ e=>e);rw[q09 h1,q08 h2]at z;exact z
  ·rw[q06 ⋯]
   have z:=q H (λ_ _ e=>e);rw[q08 h1]at z;exact z
theorem zU{α:Type}{l:List α}{i:Nat}{x:α}(h:l[i]?=some x):l.drop i=x::l.drop (i+1):=by
 obtain⟨a,e⟩:=JX.mp h;rw[q0T a,e]
structure BF(K:W.Frag)(R:RC):Prop where
 kit:∀i j,i<4->j<4->W.kitOne K (.ref (R.at i)) (.ref (R.at j))=some (decide (i=j))
abbrev FT(z x:Str):Bool:=!(Builtin.Str.occurrences z x 0 z.length 1).isEmpty
def gj(sg:Str):Yaa->Nat->Option Nat
 | [],_=>none
 |r::rs,j=>if r.1=0/\FT sg (tx r.2.sg)=false then some j else gj sg rs (j+1)
def hX(sg st:K0)(rs:Yaa):Option (Str×List Int):=
 if iI sg=false then some ("signs",[]) else if dD st=false then some ("start",[]) else if 24<rs.length then some ("rules",[(rs.length:Int)]) else
  match gj (tx sg) rs 0 with
  |some k=>some ("sign",[(k:Int)])
  |none=>none
abbrev eM:Stmt:=fP 45
def bI(R:RC)(H:Hp)(as:K3)(rs:Yaa):Prop:=as.length=rs.length/\∀(i:Nat) a r,as[i]?=some a->rs[i]?=some r->gm R H r.1 a r.2
theorem bI.up{R:RC}{H H':Hp}{as:K3}{rs:Yaa}(h:bI R H as rs)(s:aB H H'):bI R H' as rs:=⟨h.1,λi a r e1 e2=>(h.2 i a r e1 e2).up s⟩
inductive gQ(R:RC)(vs:List V)(H:Hp)(Q:VK)(_E:XK):Prop
 |mk (sg st:K0) (a:Addr) (as:K3) (rs:Yaa) (_:vs=[.str (tx sg),.str (tx st),.ref a]) (_:sg.length<=1000) (_:st.length<=1000) (_:H a=some (.lst (as.map V.ref))) (_:bI R H as rs) (_:(∀r∈rs,r.1<4)) (_:rs.length<=100) (_:hX sg st rs=none) (_:∀H',aB H H'->Q .non H')
theorem lR:aE ["signs","start","rules","k","rule"] ["signs","start","rules"] (av eM):=by walk_at "c"
theorem kU{R:RC}{f:Addr}{fd:K5}{t1:Tok}(F:dr K "check_made_of" "check_made_of" eM f fd)(nb:NB mg)(rk:lI K R)(rk4:BF K R)(yay:mg "MOST_RULES"=some (.int 24 t1))(zQa:mg "CellRule"=some (.ref R.cc))
  (yap:dG P w K mg base bD 2 "are_signs" ["text"] kr) (yaf:dG P w K mg base bD 2 "is_name" ["text"] jL):br P w K mg base bD 3 f fd ["signs","start","rules"] (gQ R):=by
 have sc:=lR;walk_at "f"
 ·obtain⟨sg,I,a,L,g,rfl,U,hst,ha,u,Z,hn,c,good⟩:=h
  refine⟨_,(ae (bJ (fz (eS (q00 yap hr (ac (am 0) ad)) λ_=>rfl))
   (ag eX)
   aV)
   (ae (bJ (fz (eS (q00 yaf hr (ac (am 1) ad)) λ_=>rfl))
   (ag eX)
   aV)
   (ae (bJ (aL (bj.m0 lY) (aA aZ rfl nb.len aW (ac (am 2) ad)) (di (v:=.int 24) rfl yay ⟨_,rfl⟩) (aQ _))
   (ag eX)
   aV)
   (ag (bg PassesOwn.never rfl (rj rfl nb.enumerate (ac (am 2) ad)) (iT (n:=2) rfl (bf (q02 3 sc.nd) (bf (q02 4 sc.nd) dQ)))
   (ag (bJ (PW.pt (fL (eS (aA b5 rfl nb.isinstance b_ (ac (am 4) (ac (di (v:=.ref _) rfl zQa rfl) ad))) λ_=>rfl) (eV (aL su (cC (am 4) rfl) (am 0) (by with_unfolding_all rfl)))))
   (ag eX)
   aV))))))),?_⟩
  walk_at "n";refine⟨sg,rfl,U,λH1 S=>⟨_,rfl,?_⟩⟩;unfold hX at c;have e1:iI sg=true:=by
   cases e:iI sg with
   |true=>rfl
   |false=>rw[q07 e]at c;cases c
  rw[q06 (by rw[e1];decide)]at c ⊢;refine h1 _ _ ?_;clear h1;walk_at "o";refine⟨I,rfl,⋯,λH2 O=>⟨_,rfl,?_⟩⟩;have l:=S.trans O;have e2:dD I=true:=by
   cases e:dD I with
   |true=>rfl
   |false=>rw[q07 e]at c;cases c
  rw[q06 (by rw[e2];decide)]at c ⊢;refine h2 _ _ ?_;clear h2;have G:=l _ _ ha;have D:(L.map V.ref).length=g.length:=by rw[JZ];exact u.1
  refine aq λN3 h3=>?_;walk_at "wp";refine⟨_,aN.of G,?_⟩;rw[D];have a1:¬ 24<g.length:=λh=>by rw[q07 h]at c;cases c
  rw[q06 ⋯];rw[q06 a1]at c;refine h3 _ _ ?_;clear h3;walk_at "wp";refine⟨_,aN.of G,?_⟩;refine qm (xs:=L.map V.ref) (λi σ M=>aB H M/\gj (tx sg) (g.drop i) i=gj (tx sg) g 0/\∃x y,σ=[some (.str (tx sg)),some (.str (tx I)),some (.ref a),x,y]) ⟨l,rfl,_,_,rfl⟩ ?_ ?_ ?_
  ·rintro i σ M _ ⟨q,_⟩
   exact aN.of (q _ _ ha)
  ·rintro i x σ H3 T p ⟨q,hb,x1,y1,rfl⟩ hT
   have C:i<g.length:=by have:=(JX.mp p).1;rw[D]at this;exact this
   obtain⟨d,Y,rfl⟩:∃d,L[i]?=some d/\V.ref d=x:=by
    rw[J1]at p;cases e:L[i]? with
    |none=>rw[e]at p;cases p
    |some d=>rw[e]at p;exact⟨d,rfl,q0S p⟩
   have o:g[i]?=some g[i]:=JW C;have B:=Z _ (J6 C);generalize g[i]=r at o B;rw[zU o]at hb;have j:aB H (aD H3 T (.tup [V.int (i:Int),V.ref d])):=q.trans (ak hT);have eT:aD H3 T (.tup [V.int (i:Int),V.ref d]) T=some (.tup [V.int (i:Int),V.ref d]):=af;generalize aD H3 T (.tup [V.int (i:Int),V.ref d])=H4 at j eT ⊢;have rr:=(u.2 i d r Y o).up j;obtain⟨dx,pl,m,_⟩:=id rr;walk_at "wp";refine⟨_,dt.of eT,rfl,_,_,rfl,_,_,rfl,rfl,?_⟩;refine⟨_,(rk.icls r.1).ty m,_,rk4.kit r.1 0 B (by decide),?_⟩;have b:(if r.1=0/\FT (tx sg) (tx r.2.sg)=false then some i else gj (tx sg) (g.drop (i+1)) (i+1))=gj (tx sg) g 0:=hb
   by_cases J:r.1=0
   ·rw[q07 (by simp[J])]
    obtain⟨r0,v⟩:=r;have a2:r0=0:=J;subst a2;refine⟨d,rfl,_,_,_,m,rk.i0.cl,rk.a0.2.2.2,_,rfl,_,rfl,?_⟩;have k:FT (tx sg) (tx v.sg)=true:=by
     cases k:FT (tx sg) (tx v.sg) with
     |true=>rfl
     |false=>
      rw[q07 ⟨rfl,k⟩]at b;rw[<- b]at c;cases c
    rw[q06 (by rw[show(!(Builtin.Str.occurrences (tx sg) (tx v.sg) 0 (tx sg).length 1).isEmpty)=true from k];decide)];rw[q06 (λz=>by rw[k]at z;exact q0Q z.2 (by decide))]at b;exact⟨j,b⟩
   ·rw[q06 (by simp[J])]
    rw[q06 (λz=>J z.1)]at b;exact⟨j,b⟩
  ·rintro σ M ⟨q,hb,x,y,rfl⟩
   walk_at "wp";exact good M q
def iu(m:List (Str×List Nat))(z:Str)(i:Nat):List (Str×List Nat):=m.map λq=>if q.1=z then(q.1,q.2++[i]) else q
structure rm(H0:Hp)(p:Addr)(t:NT)(H:Hp):Prop where
 same:aB H0 H
 at_:df H p t
 fresh:∀x∈t,H0 x.2.1=none
 nodup:((i9 t).map (·.1)).Nodup
theorem nn(t:NT):(i9 t).length=t.length:=by unfold i9;rw[JZ]
theorem pQ(m:List (Str×List Nat))(z:Str):(cv m z).length<=m.length+1:=by
 unfold cv;split
 ·omega
 ·rw[Ki];simp
theorem ij(m:List (Str×List Nat))(z:Str)(i:Nat):(iu m z i).map (·.1)=m.map (·.1):=by
 unfold iu;rw[Ka]
 apply q0K;intro q _;simp only[Function.comp]
 split<;>rfl
theorem yX{m:List (Str×List Nat)}{j i:Nat}{q:Str×List Nat}(nd:(m.map (·.1)).Nodup)(hj:m[j]?=some q):m.set j (q.1,q.2++[i])=iu m q.1 i:=by
 unfold iu;apply List.ext_getElem?;intro k;rw[J1,List.getElem?_set];have b:j<m.length:=(JX.mp hj).1
 by_cases e:j=k
 ·subst e
  rw[q07 rfl,q07 b,hj];simp
 ·rw[q06 e]
  cases c:m[k]? with
  |none=>rfl
  |some y=>
   have a:y.1≠q.1:=by
    intro h;have h1:(m.map (·.1))[j]?=some q.1:=by rw[J1,hj];rfl
    have h2:(m.map (·.1))[k]?=some q.1:=by rw[J1,c];simp[h]
    exact e ((List.getElem?_inj (JX.mp h1).1 nd).mp (h1.trans h2.symm))
   simp[a]
theorem rm.free{H0 H:Hp}{p:Addr}{t:NT}(N:rm H0 p t H){l:Addr}(h:H l=none):H0 l=none:=N.same.free h
theorem lZ{te:TE}{σ:St}{H0 H:Hp}{p:Addr}{t:NT}{z:Str}{i:Nat}{Q:VK}(hp:H0 p=none)(hv:σ[i]?=some (some (.ref p)))(hte:∀R:VK,R (.str z) H->te σ H R)(N:rm H0 p t H)(hn:t.length<sizeLine)
  (h:∀(H':Hp) (t':NT) (j:Nat) (x:Str×Addr×List Nat),rm H0 p t' H'->t'[j]?=some x->x.1=z->i9 t'=cv (i9 t) z->t'.length<=t.length+1->(∀a o,a≠p->H a=some o->H' a=some o)->Q (.ref x.2.1) H'):uI (Bv i) te (Dk nN) σ H Q:=by
 refine⟨.ref p,hv,p,rfl,.inl ⟨_,.inl N.at_.dict⟩,hte _ ⟨Kk _,λl k=>?_⟩⟩;have g:=N.free k;refine N.at_.setdef k hn λH' t' j x v u r d n m=>h H' t' j x ⟨λb o e=>m b o (λq=>by rw[q,hp]at e;exact nomatch e) (N.same b o e),v,λy c=>?_,?_⟩ u r d ?_ m
 ·rcases n y c with q | q
  ·exact N.fresh y q
  ·rw[q];exact g
 ·rw[d];exact kf N.nodup
 ·have:=pQ (i9 t) z
  rw[<- d,nn,nn]at this;exact this
theorem rm.put{H0 H:Hp}{p:Addr}{t:NT}{j k:Nat}{x:Str×Addr×List Nat}(N:rm H0 p t H)(hj:t[j]?=some x) :
  rm H0 p (t.set j (x.1,x.2.1,x.2.2++[k])) (aD H x.2.1 (.lst (wV (x.2.2++[k]))))/\i9 (t.set j (x.1,x.2.1,x.2.2++[k]))=iu (i9 t) x.1 k:=by
 have a:=J2 hj;have e:i9 (t.set j (x.1,x.2.1,x.2.2++[k]))=iu (i9 t) x.1 k:=by
  rw[Cq];exact yX (q:=(x.1,x.2.2)) N.nodup (by unfold i9;rw[J1,hj];rfl)
 refine⟨⟨bK N.same (N.fresh x a),N.at_.put hj,λy b=>?_,?_⟩,e⟩
 ·rcases List.mem_or_eq_of_mem_set b with q | q
  ·exact N.fresh y q
  ·rw[q];exact N.fresh x a
 ·rw[e,ij];exact N.nodup
abbrev dO:Stmt:=fP 47
theorem jF:aE ["start","rules","numbers","k","rule","part"] ["start","rules"] (av dO):=by walk_at "c"
def dY(m:List (Str×List Nat))(i:Nat)(r:Nat×RV):List (Str×List Nat):=((cw r.1 r.2).map tx).foldl cv (iu (cv m (tx r.2.n)) (tx r.2.n) i)
def fN:Nat->Yaa->List (Str×List Nat)->List (Str×List Nat)
 |_,[],m=>m
 |i,r::rs,m=>fN (i+1) rs (dY m i r)
theorem jV{m:List (Str×List Nat)}{z:Str}{n:Nat}(h:∀q∈m,q.2.length<=n):∀q∈cv m z,q.2.length<=n:=by
 unfold cv;split
 ·exact h
 ·intro q a
  rcases J'.mp a with z1 | z1
  ·exact h q z1
  ·rw[J0.mp z1];exact Kk _
theorem mh:∀{zs:K7} {m:List (Str×List Nat)} {n:Nat},(∀q∈m,q.2.length<=n)->∀q∈zs.foldl cv m,q.2.length<=n
 | [],_,_,h=>h
 |z::zs,_,_,h=>mh (zs:=zs) (jV h)
theorem uz{m:List (Str×List Nat)}{i n:Nat}{r:Nat×RV}(h:∀q∈m,q.2.length<=n):∀q∈dY m i r,q.2.length<=n+1:=by
 unfold dY;refine mh λq b=>?_;unfold iu at b;obtain⟨c,a,rfl⟩:=KI.mp b;have:=jV h c a
 split
 ·rw[Ki];simp;exact this
 ·omega
theorem oq:∀{rs:Yaa} {i n:Nat} {m:List (Str×List Nat)},(∀q∈m,q.2.length<=n)->∀q∈fN i rs m,q.2.length<=n+rs.length
 | [],_,_,_,h=>h
 |r::rs,i,n,m,h=>λq hq=>by
  have:=oq (rs:=rs) (i:=i+1) (uz (i:=i) (r:=r) h) q hq;rw[J9];omega
theorem fT:∀{rs:Yaa} {i:Nat} {m:List (Str×List Nat)} {r:Nat×RV},fN i (rs++[r]) m=dY (fN i rs m) (i+rs.length) r
 | [],i,m,r=>rfl
 |r0::rs,i,m,r=>by
  show fN (i+1) (rs++[r]) (dY m i r0)=dY (fN (i+1) rs (dY m i r0)) (i+(rs.length+1)) r;rw[fT,show i+1+rs.length=i+(rs.length+1) by omega]
theorem vk(k:Nat)(v:RV):(cw k v).length<=2:=by
 match k with
 |0=>simp[cw]
 |1=>simp[cw]
 |2=>simp[cw]
 |_+3=>simp[cw]
def ci(z:Str)(rs:Yaa):List (Str×List Nat):=fN 0 rs [(z,[])]
inductive fK(K:W.Frag)(R:RC)(vs:List V)(H:Hp)(Q:VK)(_E:XK):Prop
 |mk (z:Str) (a:Addr) (as:K3) (rs:Yaa) (_:vs=[.str z,.ref a]) (_:H a=some (.lst (as.map V.ref))) (_:bI R H as rs) (_:rs.length<=100) (_:∀p H' t,H p=none->df H' p t->i9 t=ci z rs->(∀x∈t,H x.2.1=none)->aB H H'->Q (.ref p) H')
theorem jO{R:RC}{f:Addr}{fd:K5}(F:dr K "numbers_by_name" "numbers_by_name" dO f fd)(nb:NB mg)(rk:lI K R)(yaG:vX P w K mg base bD 1 "parts" (nE K R)):br P w K mg base bD 2 f fd ["start","rules"] (fK K R):=by
 have sc:=jF;walk_at "f"
 ·obtain⟨z,a,as,rs,rfl,ha,U,hn,q⟩:=h
  refine⟨_,(ae (q01 2 sc.nd (Cw (zR (pv 0) (bz ad) Cf) rfl rfl (by simp) (by decide)))
   (ae (bg PassesOwn.never rfl (rj rfl nb.enumerate (ac (pv 1) ad)) (iT (n:=2) rfl (bf (q02 3 sc.nd) (bf (q02 4 sc.nd) dQ)))
   (ae (bo (q03 (nX (pv 2) (cC (pv 4) rfl) (bz ad) ⟨rfl,rfl,rfl,rfl⟩) (ac (pv 3) ad)))
   (ag (bg PassesOwn.never rfl (bi (Bd yaG (hr.mono (by decide)) aJ (pv 4))) (q02 5 sc.nd)
   (ag (bo (nX (pv 2) (pv 5) (bz ad) ⟨rfl,rfl,rfl,rfl⟩)))))))
   (ag (aK (pv 2))))),?_⟩
  walk_at "wp";intro p hp;refine⟨Kk _,λl hl=>?_⟩;have g:l≠p:=λe=>by rw[e,af]at hl;exact nomatch hl
  have a0:H l=none:=by rw[ar g]at hl;exact hl
  have a7:a≠p:=λe=>by rw[e,hp]at ha;exact nomatch ha
  have b3:a≠l:=λe=>by rw[e,a0]at ha;exact nomatch ha
  refine⟨by rw[ar (Ne.symm g),af],[(.inr z,.ref l)],rfl,by simp,as.map V.ref,aN.of (by rw[ar a7,ar b3,ar a7];exact ha),?_⟩;refine qm (xs:=as.map V.ref) (λi σ B=>aB H B/\∃t,df B p t/\(∀x∈t,H x.2.1=none)/\((i9 t).map (·.1)).Nodup/\i9 t=fN 0 (rs.take i) [(z,[])]/\t.length<=1+3*i/\∃x y u,σ=[some (.str z),some (.ref a),some (.ref p),x,y,u]) ?_ ?_ ?_ ?_
  ·refine⟨λb o e=>?_,[(z,l,[])],⟨by rw[af];rfl,λx c=>?_,by simp⟩,λx c=>?_,by simp[i9],rfl,by simp,_,_,_,rfl⟩
   ·have h1:b≠p:=λq=>by rw[q,hp]at e;exact nomatch e
    have h2:b≠l:=λq=>by rw[q,a0]at e;exact nomatch e
    rw[ar h1,ar h2,ar h1];exact e
   ·rw[J0.mp c,ar g,af];rfl
   ·rw[J0.mp c];exact a0
  ·rintro i σ B _ ⟨sm,_⟩
   exact aN.of (sm _ _ ha)
  ·rintro i x σ H1 T c ⟨sm,t,N,fr,nd,em,hlen,x1,y1,u1,rfl⟩ hT
   have a3:i<rs.length:=by have:=(JX.mp c).1;rw[JZ,U.1]at this;exact this
   obtain⟨d,b0,rfl⟩:∃d,as[i]?=some d/\V.ref d=x:=by
    rw[J1]at c;cases e:as[i]? with
    |none=>rw[e]at c;cases c
    |some d=>rw[e]at c;exact⟨d,rfl,q0S c⟩
   have Y:rs[i]?=some rs[i]:=JW a3;generalize rs[i]=r at Y;have rr:=U.2 i d r b0 Y;have M:aB H (aD H1 T (.tup [V.int (i:Int),V.ref d])):=sm.trans (ak hT);have gT:∀b o,H1 b=some o->aD H1 T (.tup [V.int (i:Int),V.ref d]) b=some o:=ak hT;have eT:dt K (aD H1 T (.tup [V.int (i:Int),V.ref d])) T [V.int (i:Int),V.ref d]:=dt.of af;have N2:=N.grow gT;generalize aD H1 T (.tup [V.int (i:Int),V.ref d])=H2 at M gT eT N2 ⊢;clear gT N hT sm H1;simp only[zY,xf,jx,Cz];refine⟨_,_,rfl,eT,rfl,_,_,rfl,_,_,rfl,rfl,?_⟩;refine aq λN1 h1=>?_;have a2:=rr.up M;have NI:rm H p t H2:=⟨M,N2,fr,nd⟩;have hz:sizeLine>1000:=aX (by decide);obtain⟨dx,pl,J,_⟩:=id a2;walk_at "wp";refine lZ (z:=tx r.2.n) hp rfl (λS hS=>⟨_,rfl,d,_,dx,_,_,rfl,J,(rk.icls r.1).cl,(rk.name r.1).1,(jd pl r.2 r.1).1,hS⟩) NI ⋯ λH3 t3 j x N3 hj c hm a5 hk=>?_;have O:=N3.at_.list x (J2 hj);refine⟨.inl ⟨rfl,_,aN.of O⟩,_,rfl,_,O,?_,h1 _ _ ?_⟩
   ·have h2:(x.1,x.2.2)∈cv (i9 t) (tx r.2.n):=by rw[<- hm];exact KI.mpr ⟨x,J2 hj,rfl⟩
    have h3:=jV (oq (rs:=rs.take i) (i:=0) (n:=0) (m:=[(z,[])]) (λq hq=>by rw[J0.mp hq];exact Kk _)) (z:=tx r.2.n) (x.1,x.2.2) (by rw[<- em];exact h2);rw[KA]at h3;unfold wV;rw[JZ];have h4:x.2.2.length<=100:=by simp at h3;omega
    omega
   clear h1;obtain⟨I,C⟩:=N3.put (k:=i) hj;have a4:(t3.set j (x.1,x.2.1,x.2.2++[i])).length<=t.length+1:=by rw[KO];exact a5
   have C:i9 (t3.set j (x.1,x.2.1,x.2.2++[i]))=iu (cv (i9 t) (tx r.2.n)) (tx r.2.n) i:=by rw[C,hm,c]
   have eI:wV (x.2.2++[i])=wV x.2.2++[V.int (i:Int)]:=by unfold wV;rw[J_];rfl
   rw[eI]at I;generalize t3.set j (x.1,x.2.1,x.2.2++[i])=t4 at I C a4;generalize aD H3 x.2.1 (.lst (wV x.2.2++[V.int (i:Int)]))=H4 at I ⊢;clear hk O hj N3 hm a5 c NI N2 J a2;have a9:=rr.up I.same;have hpk:=vk r.1 r.2;walk_at "wp";refine ye rk a9 λlp H5 g a8 a1=>⟨lp,rfl,⟨_,aN.of a8⟩,?_⟩;have b1:lp≠p:=λe=>by rw[e,I.at_.dict]at g;exact nomatch g
   refine bQ (xs:=ao (cw r.1 r.2)) (λn σ B=>n<=(cw r.1 r.2).length/\∃L,rm H p L B/\i9 L=(((cw r.1 r.2).take n).map tx).foldl cv (iu (cv (i9 t) (tx r.2.n)) (tx r.2.n) i)/\L.length<=t.length+1+n/\B lp=some (.lst (ao (cw r.1 r.2)))/\∃u,σ=[some (.str z),some (.ref a),some (.ref p),some (.int (i:Int)),some (.ref d),u])
    ⟨Kk _,t4,⟨I.same.trans a1,I.at_.grow a1,I.fresh,I.nodup⟩,C,a4,a8,_,rfl⟩ ?_ ?_ ?_
   ·rintro n σ B _ ⟨_,L,_,_,_,G,_⟩
    exact aN.of G
   ·rintro n v σ B hv ⟨hn1,L,N',D,a6,G,u,rfl⟩
    have Z:n<(cw r.1 r.2).length:=by have:=(JX.mp hv).1;rwa [aj]at this
    rw[ba Z]at hv;cases hv;walk_at "wp";refine lZ (z:=tx (cw r.1 r.2)[n]) hp rfl (λS hS=>⟨_,rfl,hS⟩) N' ⋯ λH6 t6 j x N6 hj c b2 hl6 hk=>?_;refine⟨Z,t6,N6,?_,⋯,hk _ _ b1 G⟩;rw[b2,D,q0E,JW Z,J_,List.foldl_append]
    rfl
   ·rintro σ B ⟨_,L,N',D,a6,G,u,rfl⟩
    rw[aj,Kz]at D;refine⟨N'.same,L,N'.at_,N'.fresh,N'.nodup,?_,?_,_,_,_,rfl⟩
    ·rw[D,q0E,Y,em]
     show _=fN 0 (rs.take i++[r]) _;rw[fT,KA,KS (q0P a3),Nat.zero_add]
     rfl
    ·rw[aj]at a6;omega
  ·rintro σ B ⟨sm,t,N,fr,_,em,_,x,y,u,rfl⟩
   walk_at "wp";refine q p B t hp N ?_ fr sm;rw[em,JZ,U.1,Kz];rfl
def nM(sg st:K0)(rs:Yaa):Option (Str×List Int):=
 match hX sg st rs with
 |some y=>some y
 |none=>if 8<(ci (tx st) rs).length then some ("names",[((ci (tx st) rs).length:Int)]) else none
def gw(sg st:K0)(lk pn:Addr):List (Str×V):=[("signs",.str (tx sg)),("start",.str (tx st)),("kept",.ref lk),("numbers",.ref pn)]
def dF(R:RC)(H:Hp)(C dx a:Addr)(sg st:K0)(as:K3)(rs:Yaa):Prop:=
 ∃lk pn t,H a=some (.ins C dx (gw sg st lk pn))/\H lk=some (.lst (as.map V.ref))/\bI R H as rs/\df H pn t/\i9 t=ci (tx st) rs
def qP(R:RC)(H:Hp)(C dx a:Addr)(sg st:K0)(as:K3)(rs:Yaa)(lk pn:Addr)(t:NT):Prop:=
 H a=some (.ins C dx (gw sg st lk pn))/\H lk=some (.lst (as.map V.ref))/\bI R H as rs/\df H pn t/\i9 t=ci (tx st) rs
theorem qP.f{R:RC}{H:Hp}{C dx a:Addr}{sg st:K0}{as:K3}{rs:Yaa}{lk pn:Addr}{t:NT}(g:qP R H C dx a sg st as rs lk pn t):dF R H C dx a sg st as rs:=⟨lk,pn,t,g⟩
theorem dF.up{R:RC}{H H':Hp}{C dx a:Addr}{sg st:K0}{as:K3}{rs:Yaa}(g:dF R H C dx a sg st as rs)(s:aB H H'):dF R H' C dx a sg st as rs:=by
 obtain⟨c,b,t,h1,h2,i,e,d⟩:=g;exact⟨c,b,t,s _ _ h1,s _ _ h2,i.up s,e.grow s,d⟩
theorem CH(k:Nat)(l:Addr)(v:RV):tH k l v≠[]:=λe=>by
 have:=(jd l v k).1;rw[e]at this;exact nomatch this
theorem bI.upX{R:RC}{H H':Hp}{a C dx:Addr}{as:K3}{rs:Yaa}(h:bI R H as rs)(ha:H a=some (.ins C dx []))(s:bh a H H'):bI R H' as rs:=by
 refine⟨h.1,λi b r g c=>?_⟩;obtain⟨d,l,h1,h2⟩:=h.2 i b r g c;refine⟨d,l,s _ _ (λe=>?_) h1,s _ _ (λe=>?_) h2⟩
 ·rw[e,ha]at h1
  have:=q0S h1;exact q0Q (HO.ins.inj this).2.2.symm (CH _ _ _)
 ·rw[e,ha]at h2;cases h2
abbrev fV:Stmt:=jp 44 0
inductive ia(K:W.Frag)(R:RC)(vs:List V)(H:Hp)(Q:VK)(_E:XK):Prop
 |mk (a C dx l:Addr) (sg st:K0) (as:K3) (rs:Yaa) (_:vs=[.ref a,.str (tx sg),.str (tx st),.ref l]) (_:H a=some (.ins C dx [])) (_:jv K C) (_:(aF K C "signs"/\aF K C "start"/\aF K C "kept"/\aF K C "numbers")) (_:sg.length<=1000) (_:st.length<=1000) (_:H l=some (.lst (as.map V.ref))) (_:bI R H as rs) (_:(∀r∈rs,r.1<4)) (_:rs.length<=100) (_:nM sg st rs=none) (_:∀H' lk pn t,bh a H H'->qP R H' C dx a sg st as rs lk pn t->H lk=none->H pn=none->(∀x∈t,H x.2.1=none)->Q .non H')
theorem rJ:aE ["self","signs","start","rules"] ["self","signs","start","rules"] (av fV):=by walk_at "c"
theorem qR{R:RC}{f:Addr}{fd:K5}{t1:Tok}(F:dr K "__init__" "Grammar.__init__" fV f fd)(nb:NB mg)(yaw:mg "MOST_NAMES"=some (.int 8 t1))
  (yaK:dG P w K mg base bD 3 "check_made_of" ["signs","start","rules"] (gQ R)) (yam:dG P w K mg base bD 2 "numbers_by_name" ["start","rules"] (fK K R)) :
  br P w K mg base bD 4 f fd ["self","signs","start","rules"] (ia K R):=by
 have sc:=rJ;walk_at "f"
 ·obtain⟨a,C,g,l,b,c,q,I,rfl,ha,cl,⟨n1,n2,n3,n4⟩,a6,a5,hl,J,a7,hn,O,good⟩:=h
  refine⟨_,(ae (bo (q00 yaK hr (ac (am 1) (ac (am 2) (ac (am 3) ad)))))
   (ae (cW (am 0) (am 1) rfl)
   (ae (cW (am 0) (am 2) rfl)
   (ae (cW (am 0) (cU cI rfl nb.list fq (ac (am 3) ad)) rfl)
   (ae (cW (am 0) (q00 yam hr (ac (am 2) (ac (am 3) ad))) rfl)
   (ag (bJ (aL (bj.m0 lY) (aA zb rfl nb.len aW (ac (cC (am 0) rfl) ad)) (di (v:=.int 8) rfl yaw ⟨_,rfl⟩) (aQ _))
   (ag eX)
   aV))))))),?_⟩
  obtain⟨g0,h8⟩:hX b c I=none/\¬ 8<(ci (tx c) I).length:=by
   unfold nM at O;cases e:hX b c I with
   |some y=>rw[e]at O;cases O
   |none=>
    rw[e]at O;exact⟨rfl,λh=>by simp only[]at O;rw[q07 h]at O;cases O⟩
  walk_at "n";refine⟨b,c,l,q,I,rfl,a6,a5,hl,J,a7,hn,g0,λH1 G=>h1 _ _ ?_⟩;clear h1;have a1:=G _ _ ha;have Z:l≠a:=λe=>by rw[e,ha]at hl;cases hl
  walk_at "o";refine⟨C,g,_,a1,cl,n1,by simp,h2 _ _ ?_⟩;clear h2;have B:bh a H (aD H1 a (.ins C g [("signs",.str (tx b))])):=(bh.of G).put;have U:aD H1 a (.ins C g [("signs",.str (tx b))]) a=some (.ins C g [("signs",.str (tx b))]):=af;show _;change yC _ _ _ _ (aD H1 a (.ins C g [("signs",.str (tx b))]));generalize aD H1 a (.ins C g [("signs",.str (tx b))])=H2 at B U ⊢;clear G a1;refine aq λN3 h3=>?_;walk_at "wp";have d1:¬ (("signs":Str)="start"):=by decide +kernel
  have e3:cJ "start" (V.str (tx c)) [(("signs":Str),V.str (tx b))]=[(("signs":Str),V.str (tx b)),(("start":Str),V.str (tx c))]:=by simp only[cJ,q06 d1]
  refine⟨C,g,_,U,cl,n2,by simp,?_⟩;rw[e3];refine h3 _ _ ?_;clear h3;have n:bh a H (aD H2 a (.ins C g [(("signs":Str),V.str (tx b)),(("start":Str),V.str (tx c))])):=B.put;have T:aD H2 a (.ins C g [(("signs":Str),V.str (tx b)),(("start":Str),V.str (tx c))]) a=some (.ins C g [(("signs":Str),V.str (tx b)),(("start":Str),V.str (tx c))]):=af;generalize aD H2 a (.ins C g [(("signs":Str),V.str (tx b)),(("start":Str),V.str (tx c))])=H3 at n T ⊢;clear B U;have a0:=n _ _ Z hl;refine aq λN4 h4=>?_;walk_at "wp";refine⟨_,.inl (aN.of a0),λd j=>?_⟩;have M:d≠a:=λe=>by rw[e,T]at j;cases j
  have hlk0:d≠l:=λe=>by rw[e,a0]at j;cases j
  have sk:aB H3 (aD H3 d (.lst (q.map V.ref))):=ak j;have ek:aD H3 d (.lst (q.map V.ref)) d=some (.lst (q.map V.ref)):=af;have b1:H d=none:=by
   cases e:H d with
   |none=>rfl
   |some u=>rw[n _ _ M e]at j;cases j
  generalize aD H3 d (.lst (q.map V.ref))=H4 at sk ek ⊢;have d2:¬ (("signs":Str)="kept"):=by decide +kernel
  have d3:¬ (("start":Str)="kept"):=by decide +kernel
  have e4:cJ "kept" (V.ref d) [(("signs":Str),V.str (tx b)),(("start":Str),V.str (tx c))]=[(("signs":Str),V.str (tx b)),(("start":Str),V.str (tx c)),(("kept":Str),V.ref d)]:=by simp only[cJ,q06 d2,q06 d3]
  refine⟨C,g,_,sk _ _ T,cl,n3,by simp,?_⟩;rw[e4];refine h4 _ _ ?_;clear h4;have k:bh a H (aD H4 a (.ins C g [(("signs":Str),V.str (tx b)),(("start":Str),V.str (tx c)),(("kept":Str),V.ref d)])):=(n.then sk).put;have p:aD H4 a (.ins C g [(("signs":Str),V.str (tx b)),(("start":Str),V.str (tx c)),(("kept":Str),V.ref d)]) a=some (.ins C g [(("signs":Str),V.str (tx b)),(("start":Str),V.str (tx c)),(("kept":Str),V.ref d)]):=af;have S:aD H4 a (.ins C g [(("signs":Str),V.str (tx b)),(("start":Str),V.str (tx c)),(("kept":Str),V.ref d)]) d=some (.lst (q.map V.ref)):=by rw[ar M];exact ek
  generalize aD H4 a (.ins C g [(("signs":Str),V.str (tx b)),(("start":Str),V.str (tx c)),(("kept":Str),V.ref d)])=H5 at k p S ⊢;refine aq λN5 h5=>?_;walk_at "wp";refine⟨tx c,l,q,I,rfl,k _ _ Z hl,J.upX ha k,hn,λi H6 t m hN hm a8 D=>?_⟩;have L:i≠a:=λe=>by rw[e,p]at m;cases m
  have hpk:i≠d:=λe=>by rw[e,S]at m;cases m
  have b0:H i=none:=by
   cases e:H i with
   |none=>rfl
   |some u=>rw[k _ _ L e]at m;cases m
  have a9:∀x∈t,H x.2.1=none:=λx hx=>by
   have o:=a8 x hx;cases e:H x.2.1 with
   |none=>rfl
   |some u=>rw[k _ _ (λz=>by rw[z,p]at o;cases o) e]at o;cases o
  have d4:¬ (("signs":Str)="numbers"):=by decide +kernel
  have d5:¬ (("start":Str)="numbers"):=by decide +kernel
  have d6:¬ (("kept":Str)="numbers"):=by decide +kernel
  have e6:cJ "numbers" (V.ref i) [(("signs":Str),V.str (tx b)),(("start":Str),V.str (tx c)),(("kept":Str),V.ref d)]=gw b c d i:=by unfold gw;simp only[cJ,q06 d4,q06 d5,q06 d6]
  have a4:=D _ _ p;refine⟨C,g,_,a4,cl,n4,by simp,?_⟩;rw[e6];refine h5 _ _ ?_;clear h5;have r:bh a H (aD H6 a (.ins C g (gw b c d i))):=(k.then D).put;have gf:qP R (aD H6 a (.ins C g (gw b c d i))) C g a b c q I d i t:=by
   refine⟨af,by rw[ar M];exact D _ _ S,J.upX ha r,⟨by rw[ar L];exact hN.dict,λx hx=>?_,hN.apart⟩,hm⟩;have hq:=hN.list x hx;rw[ar (λe=>by rw[e,a4]at hq;cases hq)];exact hq
  have a3:aD H6 a (.ins C g (gw b c d i)) a=some (.ins C g (gw b c d i)):=af;have a2:aD H6 a (.ins C g (gw b c d i)) i=some (.dK (uK t)):=by rw[ar L];exact hN.dict
  generalize aD H6 a (.ins C g (gw b c d i))=H7 at r gf a3 a2 ⊢;have Y:(uK t).length=(ci (tx c) I).length:=by rw[<- hm];unfold uK i9;rw[JZ,JZ]
  walk_at "wp";refine⟨C,g,_,a3,cl,n4,_,rfl,i,rfl,_,a2,?_⟩;rw[Y];rw[q06 ⋯];exact good H7 d i t r gf b1 b0 a9
abbrev fQ:Stmt:=jp 44 2
inductive fb(R:RC)(C:Addr)(vs:List V)(H:Hp)(Q:VK)(_E:XK):Prop
 |mk (a dx:Addr) (sg st:K0) (as:K3) (rs:Yaa) (k:Nat) (b:Addr) (_:vs=[.ref a,.int (k:Int)]) (_:dF R H C dx a sg st as rs) (_:as[k]?=some b) (_:Q (.ref b) H)
theorem rf:aE ["self","k"] ["self","k"] (av fQ):=by walk_at "c"
theorem sf{R:RC}{f C:Addr}{fd:K5}(F:dr K "rule" "Grammar.rule" fQ f fd)(nb:NB mg)(cl:jv K C)(na:aF K C "signs"/\aF K C "start"/\aF K C "kept"/\aF K C "numbers"):br P w K mg base bD 1 f fd ["self","k"] (fb R C):=by
 have sc:=rf;walk_at "f"
 ·obtain⟨a,j,sg,st,as,rs,k,b,rfl,g,e,q⟩:=h
  obtain⟨c,pn,t,i,d,hrs,hN,hm⟩:=id g;have hu:=hr.units;refine⟨_,(ag (aK (aU aY (cC (am 0) rfl) (am 1) (λ_ _=>rfl)))),?_⟩;walk_at "wp";exact⟨C,j,_,i,cl,na.2.2.1,_,rfl,c,rfl,_,aN.of d,_,bx (by rw[J1,e];rfl),q⟩
abbrev fc:Stmt:=jp 44 4
inductive gt(R:RC)(C:Addr)(vs:List V)(H:Hp)(Q:VK)(_E:XK):Prop
 |mk (a dx:Addr) (sg st:K0) (as:K3) (rs:Yaa) (_:vs=[.ref a]) (_:dF R H C dx a sg st as rs) (_:∀l H',H l=none->H' l=some (.lst ((ci (tx st) rs).map λq=>V.str q.1))->aB H H'->Q (.ref l) H')
theorem pI:aE ["self"] ["self"] (av fc):=by walk_at "c"
theorem pf{R:RC}{f C:Addr}{fd:K5}(F:dr K "names" "Grammar.names" fc f fd)(nb:NB mg)(cl:jv K C)(na:aF K C "signs"/\aF K C "start"/\aF K C "kept"/\aF K C "numbers"):br P w K mg base bD 1 f fd ["self"] (gt R C):=by
 have sc:=pI;walk_at "f"
 ·obtain⟨a,j,sg,st,as,rs,rfl,g,q⟩:=h
  obtain⟨lk,c,t,e,hk,hrs,i,d⟩:=id g;have hu:=hr.units;refine⟨_,(ag (aK (cU (wX rfl) rfl nb.list fq (ac (cC (am 0) rfl) ad)))),?_⟩;walk_at "wp";refine⟨C,j,_,e,cl,na.2.2.2,_,rfl,c,rfl,_,i.dict,λl b=>q l _ b ?_ (ak b)⟩;rw[af,<- d];unfold uK i9;rw[Ka,Ka]
  rfl
abbrev fg:Stmt:=jp 44 1
inductive gu(R:RC)(C:Addr)(vs:List V)(H:Hp)(Q:VK)(_E:XK):Prop
 |mk (a dx:Addr) (sg st:K0) (as:K3) (rs:Yaa) (_:vs=[.ref a]) (_:dF R H C dx a sg st as rs) (_:∀l H',H l=none->H' l=some (.lst (as.map V.ref))->aB H H'->Q (.ref l) H')
theorem pH:aE ["self"] ["self"] (av fg):=by walk_at "c"
theorem o9{R:RC}{f C:Addr}{fd:K5}(F:dr K "rules" "Grammar.rules" fg f fd)(nb:NB mg)(cl:jv K C)(na:aF K C "signs"/\aF K C "start"/\aF K C "kept"/\aF K C "numbers"):br P w K mg base bD 1 f fd ["self"] (gu R C):=by
 have sc:=pH;walk_at "f"
 ·obtain⟨a,j,sg,st,as,rs,rfl,g,q⟩:=h
  obtain⟨c,pn,t,i,e,hrs,hN,hm⟩:=id g;have hu:=hr.units;refine⟨_,(ag (aK (cU cI rfl nb.list fq (ac (cC (am 0) rfl) ad)))),?_⟩;walk_at "wp";exact⟨C,j,_,i,cl,na.2.2.1,_,rfl,c,rfl,_,.inl (aN.of e),λd b=>q d _ b af (ak b)⟩
abbrev om:Stmt:=fP 17
inductive p9(K:W.Frag)(vs:List V)(H:Hp)(Q:VK)(_E:XK):Prop
 |mk (a:Addr) (p:aO) (_:vs=[.ref a]) (_:aN K H a (ao p)) (_:c4 p) (_:gH H (mirror p) Q)
theorem yv:aE ["picture"] ["picture"] (av om):=by walk_at "c"
theorem xV{f:Addr}{fd:K5}(F:dr K "mirror" "mirror" om f fd)(nb:NB mg):br P w K mg base bD 1 f fd ["picture"] (p9 K):=by
 have sc:=yv;walk_at "f"
 ·obtain⟨a,p,rfl,j,g,q⟩:=h
  refine⟨_,(ag (aK (bZ ["row"] [] rfl (bE.of (by kernel_rfl)) (by kernel_rfl) (bi (am 0))
    (λ_ _ _ _=>(ay (i:=0) (by show(["row"]:List Str).Nodup;decide +kernel) rfl (Or.inl rfl))) (λ_ _ _ _=>bW) (λ_ _ _ _=>(nJ rfl rfl nb.reversed (ac (am 0) ad)))))),?_⟩
  walk_at "wp";refine⟨⟨_,j⟩,dR (xs:=ao p) (λi b σ d=>d=H/\b=ao (mirror (p.take i))/\i<=p.length/\∃x,σ=[x]) ⟨rfl,rfl,Kk _,_,rfl⟩ ?_ ?_ ?_ ?_ ?_⟩
  ·rintro i b σ d ⟨_,rfl,_⟩
   refine aX ?_;rw[aj];unfold mirror;rw[JZ,KA];have:=g.1;omega
  ·rintro i b σ d ⟨_,_,h,_⟩
   rw[aj];exact h
  ·rintro i b σ d ⟨rfl,_⟩
   exact j
  ·rintro i x b σ d e ⟨rfl,rfl,hi,y,rfl⟩
   have c:i<p.length:=by have:=(JX.mp e).1;rwa [aj]at this
   rw[ba c]at e;cases e;have hr:=g.2 _ (J6 c);walk_at "wp";refine⟨by rw[ax];omega,by decide,?_,c⟩;rw[dj,i4,q0E,JW c];unfold mirror;rw[J_];exact(cR _ _).symm
  ·rintro b σ d ⟨rfl,rfl,_⟩ l c
   rw[aj,Kz];exact q l _ c af (ak c)
abbrev dq:Stmt:=fP 19
inductive qh(K:W.Frag)(vs:List V)(H:Hp)(Q:VK)(_E:XK):Prop
 |mk (a:Addr) (p:aO) (i:Nat) (_:vs=[.ref a,.int (i:Int)]) (_:aN K H a (ao p)) (_:c4 p) (_:(∀r∈p,i<r.length)) (_:∀H',aB H H'->Q (.str (tx (rR p i))) H')
theorem yl:aE ["picture","i"] ["picture","i"] (av dq):=by walk_at "c"
theorem yq{f:Addr}{fd:K5}(F:dr K "column_from_below" "column_from_below" dq f fd)(nb:NB mg):br P w K mg base bD 1 f fd ["picture","i"] (qh K):=by
 have sc:=yl;walk_at "f"
 ·obtain⟨a,p,i,rfl,v,m,z,q⟩:=h
  refine⟨_,(ag (aK (@tU _ _ _ _ _ _ _ _ (ac (bZ ["row"] [1] rfl (bE.of (by kernel_rfl)) (by kernel_rfl) (AO rfl nb.reversed (ac (am 0) ad))
    (λ_ _ _ _=>(ay (i:=0) (by show(["row","i"]:List Str).Nodup;decide +kernel) rfl (Or.inl rfl))) (λ_ _ _ _=>bW) (λ_ _ _ _=>(aU oF (am 0) (am 1) (λ_ _=>rfl)))) ad) rfl rfl))),?_⟩
  walk_at "wp";have hd:∀n,((p.reverse.take n).map λr=>V.str ⟨#[r.getD i 0]⟩)=(((p.reverse.take n).map λr=>r.getD i 0).map λc=>(⟨#[c]⟩:Str)).map V.str:=λn=>by rw[Ka,Ka];rfl
  refine⟨rfl,_,v,tQ (xs:=ao p) (λn b σ g=>g=H/\b=((p.reverse.take n).map λr=>V.str ⟨#[r.getD i 0]⟩)/\n<=p.length/\∃x,σ=[x,some (.int (i:Int))]) ⟨rfl,rfl,Kk _,_,rfl⟩ ?_ ?_ ?_ ?_ ?_⟩
  ·rintro n b σ g ⟨_,rfl,_⟩
   refine aX ?_;rw[JZ,KA];have:=m.1;rw[Kd];omega
  ·rintro n b σ g ⟨_,_,h,_⟩
   rw[aj];exact h
  ·rintro n b σ g ⟨rfl,_⟩
   exact v
  ·rintro n x b σ g o ⟨rfl,rfl,hn,y,rfl⟩
   have d:n<p.reverse.length:=by
    have:=(JX.mp o).1
    rwa [Kd,aj,<- Kd (as:=p)]at this
   have j:(ao p.reverse)[n]?=some x:=by unfold ao at o ⊢;rwa [List.map_reverse]
   rw[ba d]at j;cases j;have u:p.reverse[n]∈p:=List.mem_reverse.mp (J6 d);have hr:=m.2 _ u;have k:=z _ u;walk_at "wp";have B:(tx p.reverse[n]).cps.toList[i]?=some (p.reverse[n].getD i 0):=by rw[dj,q0A,JW k];rfl
   refine⟨by rw[ax];exact au ⋯,_,bx B,?_,by rw[Kd]at d;exact d⟩;rw[q0E,JW d,J_]
   rfl
  ·rintro b σ g ⟨rfl,rfl,_⟩ l d
   rw[aj,<- Kd (as:=p),Kz]at *;refine⟨(rR p i).map λc=>(⟨#[c]⟩:Str),.inl (aN.of ?_),?_,?_⟩
   ·rw[af];unfold rR;rw[Ka,Ka];rfl
   ·rw[Ka]
    have e:((λy:Str=>y.length)∘λc=>(⟨#[c]⟩:Str))=λ_=>1:=by funext c;rfl
    rw[e,List.map_const',List.sum_replicate_nat,JZ];have C:(Str.ofString "").length=0:=rfl;rw[C];have:=m.1;unfold rR;rw[JZ,Kd];omega
   ·rw[i4];exact q _ (ak d)
abbrev kJ:Stmt:=fP 18
inductive gW(K:W.Frag)(vs:List V)(H:Hp)(Q:VK)(_E:XK):Prop
 |mk (a:Addr) (p:aO) (r c:Nat) (_:vs=[.ref a]) (_:aN K H a (ao p)) (_:rect p r c) (_:0<r) (_:r<=64) (_:c<=64) (_:gH H (bv p) Q)
theorem v7:aE ["picture"] ["picture"] (av kJ):=by walk_at "c"
theorem vP{f:Addr}{fd:K5}(F:dr K "quarter" "quarter" kJ f fd)(nb:NB mg)(yan:dG P w K mg base bD 1 "column_from_below" ["picture","i"] (qh K)):br P w K mg base bD 2 f fd ["picture"] (gW K):=by
 have sc:=v7;walk_at "f"
 ·obtain⟨a,p,r,c,rfl,C,g,e,o,u,q⟩:=h
  refine⟨_,(ag (aK (bZ ["i"] [0] rfl (bE.of (by kernel_rfl)) (by kernel_rfl) (cn rfl nb.range (ac (aA aT rfl nb.len aW (ac (aU aY (am 0) ai (λ_ _=>rfl)) ad)) ad))
    (λ_ _ _ _=>(ay (i:=0) (by show(["i","picture"]:List Str).Nodup;decide +kernel) rfl (Or.inl rfl))) (λ_ _ _ _=>bW) (λ_ _ _ _=>(q00 yan hr (ac (am 1) (ac (am 0) ad))))))),?_⟩
  walk_at "wp";have j:0<p.length:=by rw[g.1];exact e
  have v:(p[0]).length=c:=g.2 _ (J6 j);have G:(p.headD []).length=c:=bc g e;refine⟨_,C,_,bx (ba j),_,rfl,by rw[ax];exact au ⋯,by rw[ax];omega,by rw[ax];omega,?_⟩;rw[ax,v,J7];refine jW (lo:=0) (n:=c) (λi b σ k=>aB H k/\b=ao ((List.range i).map (rR p))/\i<=c/\∃x,σ=[x,some (.ref a)]) ⟨aB.refl _,rfl,Kk _,_,rfl⟩ ?_ ?_ ?_ ?_
  ·rintro i b σ k ⟨_,rfl,_⟩
   refine aX ?_;rw[aj,JZ,q0J];omega
  ·rintro i b σ k ⟨_,_,h,_⟩
   exact h
  ·rintro i b σ k B ⟨d,rfl,_,y,rfl⟩
   walk_at "wp";refine⟨a,p,i,by simp,d.seq C,c4.of g o u,λx D=>by rw[g.2 x D];exact B,λH2 m=>⟨d.trans m,?_,B⟩⟩;rw[q0M,J_];exact(cR _ _).symm
  ·rintro b σ k ⟨d,rfl,_⟩ l z
   refine q l _ (d.free z) ?_ (d.trans (ak z));rw[af];unfold bv;rw[G]
abbrev oN:Stmt:=fP 16
inductive i8(K:W.Frag)(vs:List V)(H:Hp)(Q:VK)(_E:XK):Prop
 |mk (a:Addr) (p:aO) (r c t:Nat) (_:vs=[.ref a,.int (t:Int)]) (_:aN K H a (ao p)) (_:rect p r c) (_:0<r) (_:0<c) (_:r<=64) (_:c<=64) (_:t<8) (_:gH H (turned p t) Q)
theorem yA:aE ["picture","t","result","step"] ["picture","t"] (av oN):=by walk_at "c"
theorem xZ{f:Addr}{fd:K5}(F:dr K "turned" "turned" oN f fd)(nb:NB mg)(yaA:dG P w K mg base bD 1 "mirror" ["picture"] (p9 K))(yaP:dG P w K mg base bD 2 "quarter" ["picture"] (gW K)):br P w K mg base bD 3 f fd ["picture","t"] (i8 K):=by
 have sc:=yA;walk_at "f"
 ·obtain⟨a,p,r,c,t,rfl,hS,hp,hr0,hc0,hr1,hc1,ht,q⟩:=h
  refine⟨_,(ae (q01 2 sc.nd (cU cI rfl nb.list fq (ac (pv 0) ad)))
   (ae (bJ (aL Dy (pv 1) ai (aQ _))
   (ag (q01 2 sc.nd (q00 yaA hr (ac (pv 2) ad))))
   aV)
   (ae (bg PassesOwn.never rfl (cn rfl nb.range (ac (aw a_ (pv 1) ai) ad)) (q02 3 sc.nd)
   (ag (q01 2 sc.nd (q00 yaP hr (ac (pv 2) ad)))))
   (ag (aK (pv 2)))))),?_⟩
  walk_at "wp"
  -- the aP,from the list at l
  have loop:∀(l:Addr) (p':aO) (H1:Hp),H l=none->H1 l=some (.lst (ao p'))->aB H H1->rect p' r c->turned p t=aP (t%4) p' ->
    ∀(g:TG) (tb:TS) (D:g_),g=jx 3->tb=yO (lV (gW K) [] E0 (jz (Bv 2) nN)) (jx 2)->(∀σ' H' v,σ'[2]?=some (some v)->Q v H'->D.nx σ' H')->yh (yS 0 ((t:Int)%4).toNat) g tb D [some (V.ref a),some (V.int t),some (V.ref l),none] H1:=by
   intro l p' H1 hl h1 sm hp' et g tb D hg htb hD;subst hg htb;have e4:((t:Int)%4).toNat=t%4:=by omega
   rw[e4];refine cr (λi σ H2=>∃(l2:Addr) (x:Option V),σ=[some (V.ref a),some (V.int t),some (V.ref l2),x]/\H l2=none/\H2 l2=some (.lst (ao (aP i p')))/\aB H H2) ⟨l,none,rfl,hl,h1,sm⟩ ?_ ?_
   ·rintro i σ H2 hi ⟨l2,x,rfl,h2,h3,sm2⟩
    walk_at "wp";have hq:=cV i hp' hr0 hc0;have gp:∀r' c',rect (aP i p') r' c'->0<r'->r'<=64->c'<=64->gW K [V.ref l2] H2 (λx_1 H1=>∃l2,x_1=V.ref l2/\H l2=none/\H1 l2=some (HO.lst (ao (aP (i+1) p')))/\aB H H1) E0:=λr' c' h4 h5 h6 h7=>
     ⟨l2,aP i p',r',c',rfl,aN.of h3,h4,h5,h6,h7,λl3 H3 h8 h9 sm3=>⟨l3,rfl,sm2.free h8,by rw[h9,<- cG 1 i p'];rfl,sm2.trans sm3⟩⟩
    by_cases kH:i%2=0
    ·rw[q07 kH,q07 kH]at hq
     exact gp r c hq hr0 hr1 hc1
    ·rw[q06 kH,q06 kH]at hq
     exact gp c r hq hc0 hc1 hr1
   ·rintro σ H2 ⟨l2,x,rfl,h2,h3,sm2⟩
    exact hD _ _ _ rfl (q l2 H2 h2 (by rw[h3,et]) sm2)
  refine⟨_,.inl hS,λl hl=>?_⟩
  split
  ·rename_i h4
   refine⟨l,p,rfl,aN.of af,c4.of hp hr1 hc1,λl2 H2 h2 h3 sm2=>⟨⋯,⋯,?_⟩⟩;refine loop l2 (mirror p) H2 ((ak hl).free h2) h3 ((ak hl).trans sm2) (cg hp) (by unfold turned;rw[q07 ⋯]) _ _ _ rfl rfl ?_;intro σ' H' v e hq;exact⟨v,e,hq⟩
  ·rename_i h4
   refine⟨⋯,⋯,?_⟩;refine loop l p _ hl af (ak hl) hp (by unfold turned;rw[q06 ⋯]) _ _ _ rfl rfl ?_;intro σ' H' v e hq;exact⟨v,e,hq⟩
def oY(r:Nat×RV):List V:=match r.1 with
 |0=>[.int 0,.str (tx r.2.n),.int r.2.c,.str (tx r.2.sg),.str ""]
 |1=>[.int 1,.str (tx r.2.n),.int r.2.c,.str (tx r.2.o1),.str (tx r.2.o2)]
 |2=>[.int 2,.str (tx r.2.n),.int r.2.c,.str (tx r.2.o1),.str (tx r.2.o2)]
 |_=>[.int 3,.str (tx r.2.n),.int r.2.c,.str (tx r.2.o1),.int r.2.t]
def cX(H:Hp)(l:Addr)(ts:K3)(rs:Yaa):Prop:=H l=some (.lst (ts.map V.ref))/\ts.length=rs.length/\∀(i:Nat) t r,ts[i]?=some t->rs[i]?=some r->H t=some (.tup (oY r))
theorem cX.up{H H':Hp}{l:Addr}{ts:K3}{rs:Yaa}(h:cX H l ts rs)(s:aB H H'):cX H' l ts rs:=⟨s _ _ h.1,h.2.1,λi t r e1 e2=>s _ _ (h.2.2 i t r e1 e2)⟩
theorem dZ{k:Nat}(h:k<4):k=0\/k=1\/k=2\/k=3:=by omega
structure lT(r:Nat×RV):Prop where
 k4:r.1<4
 good:r.2.good
 small:r.2.small
structure iF(p:aO)(sg:K0)(r:Nat×RV):Prop where
 good:lT r
 n:r.2.n∈p
 o1:r.2.o1∈p
 o2:r.2.o2∈p
 sg:∃c∈sg,r.2.sg=[c]
theorem cX.app{H:Hp}{l t:Addr}{ts:K3}{rs:Yaa}{r:Nat×RV}(h:cX H l ts rs)(ht:H t=some (.tup (oY r))):cX (aD H l (.lst (ts.map V.ref++[V.ref t]))) l (ts++[t]) (rs++[r]):=by
 obtain⟨h1,h2,k⟩:=h;refine⟨by rw[af,J_];rfl,by rw[Ki,Ki,h2];rfl,λi c d b g=>?_⟩;have a:∀c d,H c=some (.tup (oY d))->aD H l (.lst (ts.map V.ref++[V.ref t])) c=some (.tup (oY d)):=λc d e=>by
  rw[ar (λz=>by rw[z,h1]at e;cases e)];exact e
 by_cases j:i<ts.length
 ·rw[Kh j]at b
  rw[Kh ⋯]at g;exact a _ _ (k i c d b g)
 ·rw[Kg ⋯]at b
  rw[Kg ⋯]at g;have kH:i=ts.length:=by
   have:=(JX.mp b).1;simp at this;omega
  subst kH;rw[Nat.sub_self]at b;rw[h2,Nat.sub_self]at g;cases b;cases g
  exact a _ _ ht
def addNew(ks:K7)(z:Str):List Str:=if z∈ks then ks else ks++[z]
theorem qc(m:List (Str×List Nat))(z:Str):(cv m z).map (·.1)=addNew (m.map (·.1)) z:=by
 unfold cv addNew
 split
 ·rfl
 ·rw[J_];rfl
theorem m8:∀(zs:K7) (m:List (Str×List Nat)),(zs.foldl cv m).map (·.1)=zs.foldl addNew (m.map (·.1))
 | [],_=>rfl
 |z::zs,m=>by rw[List.foldl_cons,List.foldl_cons,m8 zs,qc]
theorem yM(m:List (Str×List Nat))(i:Nat)(r:Nat×RV):(dY m i r).map (·.1)=(tx r.2.n::(cw r.1 r.2).map tx).foldl addNew (m.map (·.1)):=by
 unfold dY;rw[m8,ij,qc,List.foldl_cons]
def oA(z:Str)(rs:Yaa):List Nat:=rs.zipIdx.filterMap λx=>if tx x.1.2.n=z then some x.2 else none
theorem vV(z:Str)(rs:Yaa)(r:Nat×RV):oA z (rs++[r])=oA z rs++if tx r.2.n=z then[rs.length] else[]:=by
 unfold oA;rw[List.zipIdx_append,List.filterMap_append]
 congr 1
 simp
 split<;>rename_i h<;>simp[h]
theorem vD{z:Str}:∀{rs:Yaa},(∀r∈rs,tx r.2.n≠z)->oA z rs=[]:=by
 intro rs h;unfold oA;rw[List.filterMap_eq_nil_iff];intro x a;rw[q06 (h x.1 (List.fst_mem_of_mem_zipIdx a))]
structure NI(rs:Yaa)(m:List (Str×List Nat)):Prop where
 nd:(m.map (·.1)).Nodup
 ix:∀q∈m,q.2=oA q.1 rs
 all:∀r∈rs,tx r.2.n∈m.map (·.1)
theorem nO{m:List (Str×List Nat)}{z y:Str}:y∈(cv m z).map (·.1)↔y∈m.map (·.1)\/y=z:=by
 unfold cv
 split
 ·rename_i h
  exact⟨λq=>.inl q,λq=>q.elim id λe=>e▸h⟩
 ·rw[J_,J'];simp
theorem NI.name{rs:Yaa}{m:List (Str×List Nat)}(h:NI rs m)(z:Str):NI rs (cv m z):=by
 refine⟨kf h.nd,λq hq=>?_,λr hr=>nO.mpr (.inl (h.all r hr))⟩;unfold cv at hq
 split at hq
 ·exact h.ix q hq
 ·rename_i hz
  rcases J'.mp hq with q1 | q1
  ·exact h.ix q q1
  ·rw[J0.mp q1]
   exact(vD (z:=z) λr hr e=>hz (by rw[<- e];exact h.all r hr)).symm
theorem NI.names{rs:Yaa}:∀(zs:K7) {m:List (Str×List Nat)},NI rs m->NI rs (zs.foldl cv m)
 | [],_,h=>h
 |z::zs,m,h=>NI.names zs (h.name z)
theorem NI.put{rs:Yaa}{m:List (Str×List Nat)}{r:Nat×RV}(h:NI rs m)(hn:tx r.2.n∈m.map (·.1)):NI (rs++[r]) (iu m (tx r.2.n) rs.length):=by
 refine⟨by rw[ij];exact h.nd,λq b=>?_,λd a=>?_⟩
 ·unfold iu at b
  obtain⟨p,c,rfl⟩:=KI.mp b;rw[vV]
  by_cases e:p.1=tx r.2.n
  ·rw[q07 e]
   show p.2++[rs.length]=oA p.1 rs++_;rw[q07 e.symm,h.ix p c]
  ·rw[q06 e,q06 (λz=>e z.symm),Kv]
   exact h.ix p c
 ·rw[ij]
  rcases J'.mp a with q | q
  ·exact h.all d q
  ·rw[J0.mp q];exact hn
theorem ld(z:Str):∀(n:Nat) (rs:Yaa),rs.length=n->NI rs (ci z rs)
 |0,rs,h=>by
  rw[KH.mp h];exact⟨by simp[ci,fN],λq hq=>by rw[show q=(z,[]) by simpa[ci,fN]using hq];rfl,λr hr=>nomatch hr⟩
 |n+1,rs,h=>by
  obtain⟨rs',r,rfl⟩:∃rs' r,rs=rs'++[r]:=⟨rs.dropLast,rs.getLast (by intro e;rw[e]at h;cases h),(List.dropLast_concat_getLast _).symm⟩;have hl:rs'.length=n:=by rw[Ki,q0Z]at h;omega
  have a:=ld z n rs' hl;unfold ci at a ⊢;rw[fT,Nat.zero_add];unfold dY;exact((a.name (tx r.2.n)).put (nO.mpr (.inr rfl))).names _
def E7(rs:Yaa):List ThM.NR:=rs.map λr=>(tx r.2.n,(cw r.1 r.2).map tx)
theorem vJ{ks:K7}{z y:Str}:y∈addNew ks z↔y∈ks\/y=z:=ThM.mem_addNew
theorem kD{y:Str}:∀(zs ks:K7),y∈zs.foldl addNew ks↔y∈ks\/y∈zs
 | [],ks=>by simp
 |z::zs,ks=>by
  rw[List.foldl_cons,kD zs,vJ,Kb];exact⟨λh=>h.elim (λh=>h.elim .inl λe=>.inr (.inl e)) λh=>.inr (.inr h),λh=>h.elim (λh=>.inl (.inl h)) λh=>h.elim (λe=>.inl (.inr e)) .inr⟩
theorem yn(z:Str)(rs:Yaa)(r:Nat×RV):(ci z (rs++[r])).map (·.1)=(tx r.2.n::(cw r.1 r.2).map tx).foldl addNew ((ci z rs).map (·.1)):=by
 unfold ci;rw[fT,yM]
theorem zP{α:Type}{P:List α->Prop}(h0:P [])(h1:∀rs r,P rs->P (rs++[r]))(rs:List α):P rs:=by
 have:∀(n:Nat) (rs:List α),rs.length=n->P rs:=by
  intro n
  induction n with
  |zero=>intro rs h;rw[KH.mp h];exact h0
  |succ n ih=>
   intro rs h;have a:rs≠[]:=by intro e;rw[e]at h;cases h
   rw[<- List.dropLast_concat_getLast a];exact h1 _ _ (ih _ (by rw[List.length_dropLast];omega))
 exact this _ rs rfl
theorem ky(z:Str)(rs:Yaa):∀y,y∈(ci z rs).map (·.1)↔y=z\/∃r∈E7 rs,y=r.1\/y∈r.2:=by
 refine zP (P:=λrs=>∀y,y∈(ci z rs).map (·.1)↔y=z\/∃r∈E7 rs,y=r.1\/y∈r.2) ?_ ?_ rs
 ·intro y
  have e:(ci z []).map (·.1)=[z]:=rfl;rw[e];unfold E7;simp
 ·intro rs r a y
  rw[yn,kD,a y,Kb];unfold E7;rw[J_]
  constructor
  ·rintro((h | ⟨q,hq,h⟩) | h)
   ·exact .inl h
   ·exact .inr ⟨q,J'.mpr (.inl hq),h⟩
   ·exact .inr ⟨_,J'.mpr (.inr (J0.mpr rfl)),h⟩
  ·rintro(h | ⟨q,hq,h⟩)
   ·exact .inl (.inl h)
   ·rcases J'.mp hq with hq | hq
    ·exact .inl (.inr ⟨q,hq,h⟩)
    ·rw[J0.mp hq]at h
     exact .inr h
theorem CZ{sg:K0}{c:Nat}(h:c∈sg):FT (tx sg) (tx [c])=true:=by
 have:=StrLaws.found_one (tx sg) c;show(!(Builtin.Str.occurrences (tx sg) ⟨#[c]⟩ 0 (tx sg).length 1).isEmpty)=true;rw[this,dj,q09 h]
theorem kC{sg:K0}:∀{rs:Yaa} {j:Nat},(∀r∈rs,∃c∈sg,r.2.sg=[c])->gj (tx sg) rs j=none
 | [],_,_=>rfl
 |r::rs,j,h=>by
  obtain⟨c,hc,e⟩:=h r q0B;unfold gj;rw[q06 (λz=>by rw[e,CZ hc]at z;exact q0Q z.2 (by decide))];exact kC λr' hr'=>h r' (Kc _ hr')
theorem xT{p:aO}{sg st:K0}{rs:Yaa}(hsg:iI sg=true)(hst:st∈p)(hpn:∀r∈p,dD r=true)(hp:p.length<=8)(hn:rs.length<=24)(hr:∀r∈rs,iF p sg r):nM sg st rs=none:=by
 have i:hX sg st rs=none:=by
  unfold hX;rw[q06 (by rw[hsg];decide),q06 (by rw[hpn _ hst];decide),q06 ⋯,kC λr h=>(hr r h).sg]
 unfold nM;rw[i];simp only[];rw[q06];have g:∀z∈(ci (tx st) rs).map (·.1),z∈p.map tx:=λz d=>by
  rcases(ky _ _ _).mp d with e | ⟨q,c,e⟩
  ·rw[e];exact List.mem_map_of_mem hst
  ·unfold E7 at c
   obtain⟨r,b,rfl⟩:=KI.mp c;have R:=hr r b;rcases e with e | e
   ·rw[e];exact List.mem_map_of_mem R.n
   ·obtain⟨y,a,rfl⟩:=KI.mp e
    refine List.mem_map_of_mem ?_;obtain⟨k,v⟩:=r;rcases dZ R.good.k4 with rfl | rfl | rfl | rfl
    ·exact q0Q a List.not_mem_nil
    ·rcases(show y=v.o1\/y=v.o2 by simpa[cw]using a) with rfl | rfl
     ·exact R.o1
     ·exact R.o2
    ·rcases(show y=v.o1\/y=v.o2 by simpa[cw]using a) with rfl | rfl
     ·exact R.o1
     ·exact R.o2
    ·rw[show y=v.o1 by simpa[cw]using a];exact R.o1
 have:=ThM.nd_len (ld (tx st) _ rs rfl).nd g;rw[JZ,JZ]at this;omega
theorem bI.zip{R:RC}{H:Hp}{as:K3}{rs:Yaa}(h:bI R H as rs):(as.zip rs).map (λx=>V.ref x.1)=as.map V.ref/\(as.zip rs).map (·.2)=rs/\∀x∈as.zip rs,gm R H x.2.1 x.1 x.2.2:=by
 refine⟨?_,List.map_snd_zip (by have:=h.1;omega),λx b=>?_⟩
 ·have e:(as.zip rs).map (λx=>V.ref x.1)=((as.zip rs).map Prod.fst).map V.ref:=by rw[Ka];rfl
  rw[e,List.map_fst_zip (by have:=h.1;omega)]
 ·obtain⟨i,c,e⟩:=List.mem_iff_getElem.mp b
  have a:(as.zip rs)[i]?=some x:=by rw[JW c,e]
  rw[List.getElem?_zip_eq_some]at a;exact h.2 i x.1 x.2 a.1 a.2
structure G5(K:W.Frag)(C:Addr):Prop where
 cl:jn K C
 na:aF K C "signs"/\aF K C "start"/\aF K C "kept"/\aF K C "numbers"
abbrev qQ:Stmt:=fP 8
theorem ED(x:Str):x=tx x.cps.toList:=by unfold tx;simp
theorem xg(p:aO):Txt.join (Str.ofString "/") (p.map tx)=tx (SpM.glue 47 p):=by
 have e:(Txt.join (Str.ofString "/") (p.map tx)).cps.toList=SpM.glue 47 p:=by
  have h:=SpM.join_glue 47 (p.map tx);rw[Ka]at h;have a:((λy:Str=>y.cps.toList)∘tx)=id:=by funext r;exact dj r
  rw[a,List.map_id]at h;exact h
 rw[<- e];exact ED _
inductive gC(K:W.Frag)(vs:List V)(H:Hp)(Q:VK)(_E:XK):Prop
 |mk (a:Addr) (p:aO) (_:vs=[.ref a]) (_:H a=some (.lst (ao p))) (_:c4 p) (_:Q (.str (tx (SpM.glue 47 p))) H)
theorem A6:aE ["picture"] ["picture"] (av qQ):=by walk_at "c"
theorem je:∀{p:aO} {n:Nat},(∀r∈p,r.length<=n)->((p.map tx).map λy:Str=>y.length).sum<=p.length*n
 | [],n,_=>by simp
 |r::p,n,h=>by
  have h1:=h r (by simp);have h2:=je (p:=p) (n:=n) λx hx=>h x (by simp[hx]);simp only[Kq,List.sum_cons,ax,J9];rw[Nat.succ_mul];omega
theorem Aa{f:Addr}{fd:K5}(F:dr K "shown" "shown" qQ f fd):br P w K mg base bD 1 f fd ["picture"] (gC K):=by
 have sc:=A6;walk_at "f"
 ·obtain⟨a,p,rfl,c,b,q⟩:=h
  refine⟨_,(ag (aK (@tU _ _ _ _ _ _ _ _ (ac (am 0) ad) rfl rfl))),?_⟩;walk_at "wp";refine⟨rfl,p.map tx,.inl (by rw[<- fA];exact aN.of c),?_,?_⟩
  ·have:=je b.2
   have h1:=b.1;have d:(Str.ofString "/").length=1:=rfl;rw[JZ,d];have h2:p.length*64<=64*64:=Nat.mul_le_mul_right _ h1;omega
  ·rw[xg];exact q
abbrev n9:Stmt:=fP 13
def qJ(sb:Bool)(p:aO)(n:Nat):aO:=if sb=true then p.map (List.take n) else p.take n
def lO(sb:Bool)(p:aO)(n:Nat):aO:=if sb=true then p.map (List.drop n) else p.drop n
inductive qD(K:W.Frag)(vs:List V)(H:Hp)(Q:VK)(_E:XK):Prop
 |mk (sb:Bool) (a:Addr) (p:aO) (r c n:Nat) (_:vs=[.ref a,.bl sb,.int (n:Int)]) (_:aN K H a (ao p)) (_:rect p r c) (_:r<=6) (_:c<=6) (_:n<=(if sb=true then c else r)) (_:∀(t l1 l2:Addr) (H':Hp),H t=none->H l1=none->H l2=none->l1≠l2->H' t=some (.tup [.ref l1,.ref l2])->H' l1=some (.lst (ao (qJ sb p n)))->H' l2=some (.lst (ao (lO sb p n)))->aB H H'->Q (.ref t) H')
theorem yr:aE ["picture","side_by_side","at"] ["picture","side_by_side","at"] (av n9):=by walk_at "c"
theorem BP{row:K0}{n:Nat}(h:n<=row.length):Txt.slice (tx row) none (some (n:Int))=tx (row.take n):=by
 rw[ft,HT.sIx_nat,KS h];show tx ((row.drop 0).take (n-0))=_;rw[KU,Nat.sub_zero]
theorem nW{row:K0}{n:Nat}(h:n<=row.length):Txt.slice (tx row) (some (n:Int)) none=tx (row.drop n):=by
 rw[ft,HT.sIx_nat,KS h];show tx ((row.drop n).take (row.length-n))=_;rw[q0F (by rw[KC];omega)]
theorem EQ{p:aO}{n:Nat}(h:n<=p.length):gS (ao p) none (some (n:Int))=ao (p.take n):=by
 unfold gS;rw[HT.sIx_nat,aj,KS h];show((ao p).drop 0).take (n-0)=_;rw[KU,Nat.sub_zero];unfold ao;rw[List.map_take]
theorem Bc{p:aO}{n:Nat}(h:n<=p.length):gS (ao p) (some (n:Int)) none=ao (p.drop n):=by
 unfold gS;rw[HT.sIx_nat,aj,KS h];show((ao p).drop n).take (p.length-n)=_;rw[q0F (by rw[KC,aj];omega)];unfold ao;rw[List.map_drop]
theorem yY{f:Addr}{fd:K5}(F:dr K "parted" "parted" n9 f fd)(nb:NB mg):br P w K mg base bD 1 f fd ["picture","side_by_side","at"] (qD K):=by
 have sc:=yr;walk_at "f"
 ·obtain⟨L,a,p,r,c,n,rfl,C,B,hr1,hc1,G,q⟩:=h
  refine⟨_,(ae (bJ (eS (am 1) λ_=>rfl)
   (ag (aK (bN (ac (bZ ["row"] [2] rfl (bE.of (by kernel_rfl)) (by kernel_rfl) (bi (am 0))
    (λ_ _ _ _=>(ay (i:=0) (by show(["row","at"]:List Str).Nodup;decide +kernel) rfl (Or.inl rfl))) (λ_ _ _ _=>bW) (λ_ _ _ _=>(cH jN (am 0) d_ (cE (am 1))))) (ac (bZ ["row"] [2] rfl (bE.of (by kernel_rfl)) (by kernel_rfl) (bi (am 0))
    (λ_ _ _ _=>(ay (i:=0) (by show(["row","at"]:List Str).Nodup;decide +kernel) rfl (Or.inl rfl))) (λ_ _ _ _=>bW) (λ_ _ _ _=>(cH jN (am 0) (cE (am 1)) d_))) ad)))))
   aV)
   (ag (aK (bN (ac (cH hZ (am 0) d_ (cE (am 2))) (ac (cH hZ (am 0) (cE (am 2)) d_) ad)))))),?_⟩
  walk_at "wp";cases L with
  |true=>
   rw[q07 rfl]at G ⊢;refine⟨⟨_,C⟩,dR (xs:=ao p) (λi b σ m=>m=H/\b=ao ((p.take i).map (List.take n))/\i<=p.length/\∃y,σ=[y,some (V.int (n:Int))]) ⟨rfl,rfl,Kk _,_,rfl⟩ ?_ ?_ ?_ ?_ ?_⟩
   ·rintro i b σ m ⟨_,rfl,J,_⟩
    rw[aj,JZ,KA];exact aX (by rw[B.1]at *;omega)
   ·rintro i b σ m ⟨_,_,h,_⟩
    rw[aj];exact h
   ·rintro i b σ m ⟨rfl,_⟩
    exact C
   ·rintro i v b σ m z ⟨rfl,rfl,J,y,rfl⟩
    have u:i<p.length:=by have:=(JX.mp z).1;rwa [aj]at this
    rw[ba u]at z;cases z;have D:=B.2 _ (J6 u);walk_at "wp";refine⟨by rw[ax];exact au ⋯,?_,u⟩;rw[BP ⋯,q0E,JW u,J_];exact(cR _ _).symm
   ·rintro b σ m ⟨rfl,rfl,_⟩ g k
    rw[aj,Kz];have j:aB m (aD m g (HO.lst (ao (p.map (List.take n))))):=ak k;have h1:aD m g (HO.lst (ao (p.map (List.take n)))) g=some (HO.lst (ao (p.map (List.take n)))):=af;generalize aD m g (HO.lst (ao (p.map (List.take n))))=H1 at j h1 ⊢;refine⟨⟨_,j.seq C⟩,dR (xs:=ao p) (λi b σ H2=>H2=H1/\b=ao ((p.take i).map (List.drop n))/\i<=p.length/\∃y,σ=[y,some (V.int (n:Int))]) ⟨rfl,rfl,Kk _,_,rfl⟩ ?_ ?_ ?_ ?_ ?_⟩
    ·rintro i b σ H2 ⟨_,rfl,J,_⟩
     rw[aj,JZ,KA];exact aX (by rw[B.1]at *;omega)
    ·rintro i b σ H2 ⟨_,_,h,_⟩
     rw[aj];exact h
    ·rintro i b σ H2 ⟨rfl,_⟩
     exact j.seq C
    ·rintro i v b σ H2 z ⟨rfl,rfl,J,y,rfl⟩
     have u:i<p.length:=by have:=(JX.mp z).1;rwa [aj]at this
     rw[ba u]at z;cases z;have D:=B.2 _ (J6 u);walk_at "wp";refine⟨by rw[ax];exact au ⋯,?_,u⟩;rw[nW ⋯,q0E,JW u,J_];exact(cR _ _).symm
    ·rintro b σ H2 ⟨rfl,rfl,_⟩ x e
     rw[aj,Kz];refine⟨au ⋯,λt l=>?_⟩;have I:g≠x:=aI h1 e;have d:∀o,aB H2 (aD H2 x o):=λo=>ak e;refine q t g x _ ?_ k (j.free e) I af ?_ ?_ ((j.trans (d _)).trans (ak l))
     ·exact j.free ((d _).free l)
     ·exact(ak l) _ _ ((d _) _ _ h1)
     ·exact(ak l) _ _ af
  |false=>
   rw[q06 (by decide)]at G ⊢;refine⟨_,C,λg k=>?_⟩;rw[EQ (by rw[B.1];exact G)];have j:aB H (aD H g (HO.lst (ao (p.take n)))):=ak k;have h1:aD H g (HO.lst (ao (p.take n))) g=some (HO.lst (ao (p.take n))):=af;generalize aD H g (HO.lst (ao (p.take n)))=H1 at j h1 ⊢;refine⟨_,j.seq C,λx e=>⟨au ⋯,λt l=>?_⟩⟩;rw[Bc (by rw[B.1];exact G)]at l ⊢;have I:g≠x:=aI h1 e;have d:∀o,aB H1 (aD H1 x o):=λo=>ak e;refine q t g x _ ?_ k (j.free e) I af ?_ ?_ ((j.trans (d _)).trans (ak l))
   ·exact j.free ((d _).free l)
   ·exact(ak l) _ _ ((d _) _ _ h1)
   ·exact(ak l) _ _ af
abbrev vK:Stmt:=fP 21
inductive xC(vs:List V)(H:Hp)(Q:VK)(_E:XK):Prop
 |mk (t:Nat) (_:vs=[.int (t:Int)]) (_:t<8) (_:Q (.int (cY t:Nat)) H)
theorem Cv:aE ["t"] ["t"] (av vK):=by walk_at "c"
theorem CT{f:Addr}{fd:K5}(F:dr K "back" "back" vK f fd):br P w K mg base bD 1 f fd ["t"] xC:=by
 have sc:=Cv;walk_at "f"
 ·obtain⟨t,rfl,ht,q⟩:=h
  refine⟨_,(ae (bJ (aL (bj.m0 kn) (am 0) ai (aQ _))
   (ag (aK (aw (bj.m1 a_) (aw (bj.m0 ii) ai (am 0)) ai)))
   aV)
   (ag (aK (am 0)))),?_⟩
  walk_at "wp"
  split
  ·have e:((cY t:Nat):Int)=(4-(t:Int))%4:=by unfold cY;rw[q07 ⋯];omega
   rw[<- e];exact q
  ·have e:((cY t:Nat):Int)=(t:Int):=by unfold cY;rw[q06 ⋯]
   rw[<- e];exact q
abbrev gZ:Stmt:=fP 9
def b8(H:Hp):List Addr->List Wn->Prop
 | [],[]=>True
 |b::bs,x::xs=>H b=some (.tup (x.map V.int))/\b8 H bs xs
 |_,_=>False
theorem b8.same{H H':Hp}(sm:aB H H'):∀{bs:K3} {xs:List Wn},b8 H bs xs->b8 H' bs xs
 | [],[],_=>trivial
 |_::_,_::_,h=>⟨sm _ _ h.1,b8.same sm h.2⟩
 | [],_::_,h=>h.elim
 |_::_,[],h=>h.elim
theorem b8.snoc{H:Hp}{b:Addr}{x:Wn}(hb:H b=some (.tup (x.map V.int))):∀{bs:K3} {xs:List Wn},b8 H bs xs->b8 H (bs++[b]) (xs++[x])
 | [],[],_=>⟨hb,trivial⟩
 |_::_,_::_,h=>⟨h.1,b8.snoc hb h.2⟩
 | [],_::_,h=>h.elim
 |_::_,[],h=>h.elim
theorem b8.get{H:Hp}:∀{bs:K3} {xs:List Wn} {i:Nat} {b:Addr},b8 H bs xs->bs[i]?=some b->∃x,xs[i]?=some x/\H b=some (.tup (x.map V.int))
 | [],_,_,_,_,e=>by simp at e
 |c::bs,x::xs,0,b,h,e=>by simp at e;subst e;exact⟨x,rfl,h.1⟩
 |c::bs,x::xs,i+1,b,h,e=>by
  obtain⟨y,h1,h2⟩:=b8.get (i:=i) h.2 (by simpa using e);exact⟨y,by simpa using h1,h2⟩
 |_::_,[],_,_,h,_=>h.elim
theorem b8.length{H:Hp}:∀{bs:K3} {xs:List Wn},b8 H bs xs->bs.length=xs.length
 | [],[],_=>rfl
 |_::_,_::_,h=>by simp[b8.length h.2]
 | [],_::_,h=>h.elim
 |_::_,[],h=>h.elim
inductive jB(vs:List V)(H:Hp)(Q:VK)(_E:XK):Prop
 |mk (r c:Nat) (_:vs=[.int (r:Int),.int (c:Int)]) (_:r<=8) (_:c<=8) (_:∀(l:Addr) (bs:K3) (H':Hp),H l=none->H' l=some (.lst (bs.map V.ref))->b8 H' bs (jX r c)->aB H H'->Q (.ref l) H')
theorem o_:aE ["rows","columns","windows","top","left","bottom","right"] ["rows","columns"] (av gZ):=by walk_at "c"
structure gN(H H':Hp)(l:Addr)(xs:List Wn)(n:Nat):Prop where
 ex:∃bs:List Addr,H' l=some (.lst (bs.map V.ref))/\b8 H' bs xs/\bs.length<=n
 sm:aB H H'
theorem gN.more{H H':Hp}{l:Addr}{xs:List Wn}{n m:Nat}(h:gN H H' l xs n)(hm:n<=m):gN H H' l xs m:=
 ⟨let ⟨bs,h1,h2,h3⟩:=h.ex;⟨bs,h1,h2,Ks h3 hm⟩,h.sm⟩
theorem gN.snoc{H H':Hp}{l p:Addr}{xs:List Wn}{x:Wn}{n:Nat}{bs:K3}(hl:H l=none)(h1:H' l=some (.lst (bs.map V.ref)))(h2:b8 H' bs xs)(h3:bs.length<=n)(sm:aB H H')(hp:H' p=none) :
  gN H (aD (aD H' p (.tup (x.map V.int))) l (.lst (bs.map V.ref++[V.ref p]))) l (xs++[x]) (n+1):=by
 have d:p≠l:=λe=>by rw[e,h1]at hp;cases hp
 refine⟨⟨bs++[p],?_,?_,by rw[Ki,q0Z];omega⟩,bK (bK sm (sm.free hp)) hl⟩
 ·rw[af,J_];rfl
 ·refine b8.snoc (by rw[ar d,af]) ?_
  -- no tuple is the list
  have i:∀{b:K3} {a:List Wn},b8 H' b a->b8 (aD (aD H' p (.tup (x.map V.int))) l (.lst (bs.map V.ref++[V.ref p]))) b a:=by
   intro b
   induction b with
   |nil=>intro a h;cases a with
    |nil=>trivial
    |cons _ _=>exact h.elim
   |cons c b ih=>
    intro a h;cases a with
    |nil=>exact h.elim
    |cons y a=>
     have g:c≠l:=pV h.1 h1 (by intro z;cases z);exact⟨by rw[ar g,ar (aI h.1 hp)];exact h.1,ih h.2⟩
  exact i h2
theorem pP{f:Addr}{fd:K5}(F:dr K "windows_of" "windows_of" gZ f fd)(nb:NB mg):br P w K mg base bD 1 f fd ["rows","columns"] jB:=by
 have sc:=o_;walk_at "f"
 ·obtain⟨r,c,rfl,hr1,hc1,q⟩:=h
  refine⟨_,(ae (q01 2 sc.nd (bz ad))
   (ae (bg PassesOwn.never rfl (cn rfl nb.range (ac (am 0) ad)) (q02 3 sc.nd)
   (ag (bg PassesOwn.never rfl (cn rfl nb.range (ac (am 1) ad)) (q02 4 sc.nd)
   (ag (bg PassesOwn.never rfl (gF rfl nb.range (ac (aw (bj.m0 bO) (am 3) ai) (ac (aw (bj.m0 bO) (am 0) ai) ad))) (q02 5 sc.nd)
   (ag (bg PassesOwn.never rfl (gF rfl nb.range (ac (aw (bj.m0 bO) (am 4) ai) (ac (aw (bj.m0 bO) (am 1) ai) ad))) (q02 6 sc.nd)
   (ag (bo (q03 (am 2) (ac (bN (ac (am 3) (ac (am 4) (ac (am 5) (ac (am 6) ad))))) ad)))))))))))
   (ag (aK (am 2))))),?_⟩
  walk_at "wp";refine⟨au ⋯,λl y=>⟨⋯,⋯,?_⟩⟩;rw[J7];refine cr (lo:=0) (n:=r) (λt σ H1=>t<=r/\gN H H1 l (W1 r c t) (t*1000)/\∃j g d b,σ=[some (V.int r),some (V.int c),some (V.ref l),j,g,d,b])
   ⟨Kk _,⟨⟨[],af,trivial,Kk _⟩,ak y⟩,_,_,_,_,rfl⟩ ?_ ?_
  ·rintro t σ H1 I ⟨_,G,j,g,d,b,rfl⟩
   walk_at "wp";refine⟨⋯,⋯,?_⟩;rw[J7];refine cr (lo:=0) (n:=c) (λa σ H2=>a<=c/\gN H H2 l (W1 r c t++W2 r c t a) (t*1000+a*100)/\∃g d b,σ=[some (V.int r),some (V.int c),some (V.ref l),some (V.int t),g,d,b])
    ⟨Kk _,by show gN H H1 l (W1 r c t++[]) _;rw[Kv];exact G.more ⋯,_,_,_,rfl⟩ ?_ ?_
   ·rintro a σ H2 x ⟨_,u,g,d,b,rfl⟩
    walk_at "wp";refine⟨⋯,⋯,⋯,⋯,?_⟩;rw[show((r:Int)+1-((t:Int)+1)).toNat=r-t by omega];refine cr (lo:=(t:Int)+1) (n:=r-t) (λbt σ i=>bt<=r-t/\gN H i l (W1 r c t++W2 r c t a++W3 c t a bt) (t*1000+a*100+bt*10)/\∃d b,σ=[some (V.int r),some (V.int c),some (V.ref l),some (V.int t),some (V.int a),d,b])
     ⟨Kk _,by show gN H H2 l (W1 r c t++W2 r c t a++[]) _;rw[Kv];exact u.more ⋯,_,_,rfl⟩ ?_ ?_
    ·rintro bt σ i z ⟨_,o,d,b,rfl⟩
     walk_at "wp";refine⟨⋯,⋯,⋯,⋯,?_⟩;rw[show((c:Int)+1-((a:Int)+1)).toNat=c-a by omega];refine cr (lo:=(a:Int)+1) (n:=c-a) (λk σ B=>k<=c-a/\gN H B l (W1 r c t++W2 r c t a++W3 c t a bt++W4 t a (t+1+bt) k) (t*1000+a*100+bt*10+k)/\∃b,σ=[some (V.int r),some (V.int c),some (V.ref l),some (V.int t),some (V.int a),some (V.int ((t:Int)+1+bt)),b])
      ⟨Kk _,by show gN H i l (W1 r c t++W2 r c t a++W3 c t a bt++[]) _;rw[Kv];exact o.more ⋯,_,rfl⟩ ?_ ?_
     ·rintro k σ B J ⟨_,m,b,rfl⟩
      obtain⟨⟨bs,h1,h2,D⟩,v⟩:=m;walk_at "wp";refine⟨.inl ⟨rfl,_,aN.of h1⟩,au ⋯,λp C=>⟨_,by rw[ar (aI h1 C)];exact h1,?_,J,?_⟩⟩
      ·rw[JZ];exact aX ⋯
      ·rw[CJ,<- Kw]
       have e:[V.int (t:Int),V.int (a:Int),V.int ((t:Int)+1+(bt:Int)),V.int ((a:Int)+1+(k:Int))]=(wn t a (t+1+bt) (a+1+k)).map V.int:=by unfold wn;simp
       rw[e];exact gN.snoc y h1 h2 D v C
     ·rintro σ B ⟨_,m,b,rfl⟩
      refine⟨z,?_,_,_,rfl⟩;rw[CB,<- Kw];exact m.more ⋯
    ·rintro σ i ⟨_,o,d,b,rfl⟩
     refine⟨x,?_,_,_,_,rfl⟩;rw[B1,<- Kw];exact o.more ⋯
   ·rintro σ H2 ⟨_,u,g,d,b,rfl⟩
    refine⟨I,?_,_,_,_,_,rfl⟩;rw[Ch];exact u.more ⋯
  ·rintro σ H1 ⟨_,⟨⟨bs,h1,h2,D⟩,v⟩,j,g,d,b,rfl⟩
   walk_at "wp";exact q l bs H1 y h1 h2 v
abbrev lJ:Stmt:=fP 10
inductive AX(K:W.Frag)(vs:List V)(H:Hp)(Q:VK)(_E:XK):Prop
 |mk (a tp:Addr) (p:aO) (r c t l b x:Nat) (_:vs=[.ref a,.ref tp]) (_:aN K H a (ao p)) (_:dt K H tp ((wn t l b x).map V.int)) (_:rect p r c) (_:r<=64) (_:c<=64) (_:t<b) (_:b<=r) (_:l<x) (_:x<=c) (_:gH H (cut p t l b x) Q)
theorem vZ:aE ["picture","window","top","left","bottom","right"] ["picture","window"] (av lJ):=by walk_at "c"
theorem AQ{row:K0}{l x:Nat}(h1:l<=x)(h2:x<=row.length):Txt.slice (tx row) (some (l:Int)) (some (x:Int))=tx ((row.drop l).take (x-l)):=by
 rw[ft,HT.sIx_nat,HT.sIx_nat,KS (show l<=row.length by omega),KS h2]
theorem A_{p:aO}{t b:Nat}(h1:t<=b)(h2:b<=p.length):gS (ao p) (some (t:Int)) (some (b:Int))=ao ((p.drop t).take (b-t)):=by
 unfold gS;rw[HT.sIx_nat,HT.sIx_nat,aj,KS (show t<=p.length by omega),KS h2];unfold ao;rw[List.map_take,List.map_drop]
theorem wD{f:Addr}{fd:K5}(F:dr K "cut_out" "cut_out" lJ f fd)(nb:NB mg):br P w K mg base bD 1 f fd ["picture","window"] (AX K):=by
 have sc:=vZ;walk_at "f"
 ·obtain⟨a,tp,p,r,c,t,l,b,x,rfl,M,o,I,hr1,hc1,h1,h2,h3,h4,q⟩:=h
  refine⟨_,(ae (q01 2 sc.nd (aU bH (am 1) ai (λ_ _=>rfl)))
   (ae (aH (i:=3) sc.nd rfl (Or.inr rfl) (aU bH (am 1) ai (λ_ _=>rfl)))
   (ae (q01 4 sc.nd (aU bH (am 1) ai (λ_ _=>rfl)))
   (ae (aH (i:=5) sc.nd rfl (Or.inr rfl) (aU bH (am 1) ai (λ_ _=>rfl)))
   (ag (aK (bZ ["row"] [3,5] rfl (bE.of (by kernel_rfl)) (by kernel_rfl) (bi (cH hZ (am 0) (cE (am 2)) (cE (am 4))))
    (λ_ _ _ _=>(ay (i:=0) (by show(["row","left","right"]:List Str).Nodup;decide +kernel) rfl (Or.inl rfl))) (λ_ _ _ _=>bW) (λ_ _ _ _=>(cH jN (am 0) (cE (am 1)) (cE (am 2))))))))))),?_⟩
  walk_at "wp";refine⟨_,o,V.int t,bx (j:=0) rfl,_,o,V.int l,bx (j:=1) rfl,_,o,V.int b,bx (j:=2) rfl,_,o,V.int x,bx (j:=3) rfl,_,rfl,_,rfl,_,M,λD z=>⟨⟨_,aN.of af⟩,?_⟩⟩;rw[A_ ⋯ (by rw[I.1];omega)];have G:∀row∈(p.drop t).take (b-t),row.length=c:=λrow e=>I.2 row (q0I (q0H e));have k:((p.drop t).take (b-t)).length<=64:=by rw[KA];omega
  generalize B:(p.drop t).take (b-t)=q0 at G k ⊢;have C:aB H (aD H D (HO.lst (ao q0))):=ak z;refine dR (xs:=ao q0) (λi d σ g=>g=aD H D (HO.lst (ao q0))/\d=ao ((q0.take i).map λrow=>(row.drop l).take (x-l))/\i<=q0.length/\∃y,σ=[y,some (V.int l),some (V.int x)]) ⟨rfl,rfl,Kk _,_,rfl⟩ ?_ ?_ ?_ ?_ ?_
  ·rintro i d σ g ⟨_,rfl,L,_⟩
   rw[aj,JZ,KA];exact aX ⋯
  ·rintro i d σ g ⟨_,_,h,_⟩
   rw[aj];exact h
  ·rintro i d σ g ⟨rfl,_⟩
   exact aN.of af
  ·rintro i v d σ g u ⟨rfl,rfl,L,y,rfl⟩
   have n:i<q0.length:=by have:=(JX.mp u).1;rwa [aj]at this
   rw[ba n]at u;cases u;have e:=G _ (J6 n);walk_at "wp";refine⟨by rw[ax];exact au ⋯,?_,n⟩;rw[AQ ⋯ ⋯,q0E,JW n,J_];exact(cR _ _).symm
  ·rintro d σ g ⟨rfl,rfl,_⟩ J m
   rw[aj,Kz];refine q J _ (C.free m) ?_ (C.trans (ak m));rw[af];unfold cut;rw[B]
abbrev dI:Stmt:=fP 23
def xR(ss:K7):Prop:=ss≠[]/\(ss.headD ⟨#[]⟩).length<=64
inductive dC(K:W.Frag)(vs:List V)(H:Hp)(Q:VK)(_E:XK):Prop
 |mk (a:Addr) (ss:K7) (_:vs=[.ref a]) (_:aN K H a (ss.map V.str)) (_:xR ss) (_:∀t,H t=none->Q (.ref t) (aD H t (.tup [.int (gq ss),.ref a])))
theorem jZ:aE ["picture"] ["picture"] (av dI):=by walk_at "c"
theorem dA(K:W.Frag):∀l ss H Q E,aN K H l (ss.map V.str)->xR ss->(∀t,H t=none->Q (.ref t) (aD H t (.tup [.int (gq ss),.ref l])))->dC K [.ref l] H Q E:=λl ss H Q E h1 h2 h3=>⟨l,ss,rfl,h1,h2,h3⟩
theorem jP{f:Addr}{fd:K5}(F:dr K "cells_then_rows" "cells_then_rows" dI f fd)(nb:NB mg):br P w K mg base bD 1 f fd ["picture"] (dC K):=by
 have sc:=jZ;walk_at "f"
 ·obtain⟨a,c,rfl,b,e,q⟩:=h
  refine⟨_,(ag (aK (bN (ac (aw (bj.m1 dz) (aA aZ rfl nb.len aW (ac (am 0) ad)) (aA aT rfl nb.len aW (ac (aU aY (am 0) ai (λ_ _=>rfl)) ad))) (ac (am 0) ad))))),?_⟩;walk_at "wp";obtain⟨g,h1⟩:=e;obtain⟨z,c,rfl⟩:=List.exists_cons_of_ne_nil g;have h2:z.length<=64:=h1;have h3:((z.length:Nat):Int)<=64:=by omega
  refine⟨_,b,_,b,_,bx (j:=0) rfl,z,rfl,au ⋯,.inr ⟨⋯,⋯⟩,au ⋯,λp d=>?_⟩;have:=q p d;unfold gq at this;rw[JZ];exact this
abbrev lQ:Stmt:=fP 22
inductive n6(K:W.Frag)(vs:List V)(H:Hp)(Q:VK)(_E:XK):Prop
 |mk (a:Addr) (p:aO) (r c:Nat) (_:vs=[.ref a]) (_:aN K H a (ao p)) (_:rect p r c) (_:0<r) (_:0<c) (_:r<=6) (_:c<=6) (_:bU p) (_:∀(H':Hp) (l:Addr) (zs:List AP),aB H H'->H l=none->H' l=some (.lst (zs.map λz=>V.ref z.1))->(∀z∈zs,H z.1=none/\H' z.1=some (.lst (ao z.2)))->(zs.map (·.1)).Nodup->FF p r c (zs.map (·.2))->zs.length<=8000->Q (.ref l) H')
theorem b8.dict{H:Hp}{d:Addr}{kvs:List (cM×V)}{o:HO}(hd:H d=some (.dK kvs)):∀{bs:K3} {xs:List Wn},b8 H bs xs->b8 (aD H d o) bs xs
 | [],[],_=>trivial
 |_::_,_::_,h=>⟨by rw[ar (pV h.1 hd (by intro e;cases e))];exact h.1,b8.dict hd h.2⟩
 | [],_::_,h=>h.elim
 |_::_,[],h=>h.elim
theorem v_:aE ["picture","found","window","part","t","seen"] ["picture"] (av lQ):=by walk_at "c"
theorem wB{f:Addr}{fd:K5}(F:dr K "seen_in" "seen_in" lQ f fd)(nb:NB mg){tkT:Tok}(yag:mg "TURNINGS"=some (.int 8 tkT))(yaq:dG P w K mg base bD 1 "windows_of" ["rows","columns"] jB)(yaD:dG P w K mg base bD 1 "cut_out" ["picture","window"] (AX K))(zla:dG P w K mg base bD 3 "turned" ["picture","t"] (i8 K))(yab:dG P w K mg base bD 1 "shown" ["picture"] (gC K))(yau:dG P w K mg base bD 1 "cells_then_rows" ["picture"] (dC K)):br P w K mg base bD 4 f fd ["picture"] (n6 K):=by
 have sc:=v_;have dA:=dA K;walk_at "f"
 ·obtain⟨a,p,r,c,rfl,hS,hp,a9,d6,c9,d5,d1,q⟩:=h
  have hu:=hr.units;refine⟨_,(ae (q01 1 sc.nd vf)
   (ae (bg PassesOwn.never rfl (bi (q00 yaq hr (ac (aA aZ rfl nb.len aW (ac (am 0) ad)) (ac (aA aT rfl nb.len aW (ac (aU aY (am 0) ai (λ_ _=>rfl)) ad)) ad)))) (q02 2 sc.nd)
   (ae (q01 3 sc.nd (q00 yaD hr (ac (am 0) (ac (am 2) ad))))
   (ag (bg PassesOwn.never rfl (cn rfl nb.range (ac (di (v:=.int 8) rfl yag ⟨_,rfl⟩) ad)) (q02 4 sc.nd)
   (ae (q01 5 sc.nd (q00 zla hr (ac (am 3) (ac (am 4) ad))))
   (ag (re (KG (KL (by decide:1<=64) _) hu) (am 1) (q00 yab hr (ac (am 5) ad)) (am 5) rfl)))))))
   (ag (aK (y3 (hr.mono (by decide)) rfl rfl nb.sorted yau rfl dA (ac (Ap (am 1) rfl rfl) ad)))))),?_⟩
  walk_at "wp";intro d hd;have a0:aB H (aD H d (HO.dK [])):=ak hd;obtain⟨d2,L⟩:=cT hp a9;refine⟨_,a0.seq hS,_,a0.seq hS,_,bx (j:=0) (ba d2),_,rfl,by rw[ax,L];exact au ⋯,?_⟩;rw[aj,hp.1,ax,L];refine⟨r,c,rfl,⋯,⋯,λwl bs H1 hwl J a8 a4=>?_⟩;have a1:=Cd a9 c9 d6 d5;have hlen:(jX r c).length<=1000:=by unfold check at a1;simp only[q0O,q0b]at a1;exact a1.2
  have d9:=a8.length;have a5:=a0.trans a4;refine⟨_,rfl,⟨_,aN.of J⟩,?_⟩
  -- the windows
  refine bQ (xs:=bs.map V.ref) (λi σ H2=>i<=bs.length/\(∃R,fF H H2 d (λx=>∃j,j<i/\∃u,u<8/\x=turned (B9 p ((jX r c).getD j [])) u) R (8*i))/\H2 wl=some (.lst (bs.map V.ref))/\b8 H2 bs (jX r c)/\∃x2 x3 U T,σ=[some (V.ref a),some (V.ref d),x2,x3,U,T]) ?_ ?_ ?_ ?_
  ·refine⟨Kk _,⟨[],?_⟩,J,a8,_,_,_,_,rfl⟩
   exact⟨by rw[a4 _ _ af];rfl,a5,hd,(λz hz=>nomatch hz),List.nodup_nil,List.nodup_nil,λx=>by simp,Kk _⟩
  ·rintro i σ H2 _ ⟨_,_,h,_⟩
   exact aN.of h
  ·rintro i x σ H2 hx ⟨_,⟨R,S⟩,a2,C,x2,x3,U,T,rfl⟩
   rw[J1]at hx;cases G:bs[i]? with
   |none=>rw[G]at hx;cases hx
   |some bt=>
    rw[G]at hx;cases hx
    have hi:i<bs.length:=(JX.mp G).1;obtain⟨w0,a7,b4⟩:=C.get G;obtain⟨t,l,b,x,rfl,h1,h2,h3,h4⟩:=oR.mp (J2 a7);walk_at "wp";refine⟨a,bt,p,r,c,t,l,b,x,rfl,S.sm.seq hS,dt.of b4,hp,⋯,⋯,h1,h2,h3,h4,λpl H3 b1 b0 Z=>⟨⋯,?_⟩⟩;have b3:=cB hp h1 h2 h3 h4;have S3:=S.same Z;have b6:=Z _ _ a2;have c2:=C.same Z;have hpl0:=S.sm.free b1;clear S b1 a2 C b4;have eW:(jX r c).getD i []=wn t l b x:=by rw[q0A,a7];rfl
    have e8:Int.toNat 8=8:=rfl;rw[e8];refine cr (lo:=0) (n:=8) (λu σ H4=>(∃R,fF H H4 d (λy=>(∃j,j<i/\∃u,u<8/\y=turned (B9 p ((jX r c).getD j [])) u)\/∃k,k<u/\y=turned (cut p t l b x) k) R (8*i+u))/\H4 pl=some (.lst (ao (cut p t l b x)))/\H4 wl=some (.lst (bs.map V.ref))/\b8 H4 bs (jX r c)/\∃U T,σ=[some (V.ref a),some (V.ref d),some (V.ref bt),some (V.ref pl),U,T]) ?_ ?_ ?_
    ·exact⟨⟨R,S3.congr λy=>⟨.inl,λz=>z.elim id λ⟨k,c1,_⟩=>q0Q c1 (Nat.not_lt_zero _)⟩⟩,b0,b6,c2,_,_,rfl⟩
    ·rintro u σ H4 c0 ⟨⟨o,O⟩,D,B,a3,U,T,rfl⟩
     walk_at "wp";refine⟨pl,cut p t l b x,b-t,x-l,u,by simp,aN.of D,b3,⋯,⋯,⋯,⋯,c0,λbq H5 d7 M m=>?_⟩;obtain⟨o1,o2,r',c',o3,o4,o5,o6,o7⟩:=xD (u:=u) hp d1 h1 h2 h3 h4;have c6:c4 (turned (cut p t l b x) u):=c4.of o3 ⋯ ⋯;have d4:((turned (cut p t l b x) u).headD []).length<=64:=by rw[bc o3 o4];omega
     obtain⟨e1,S5⟩:=O.step m d7 M o1 o2 d4;refine⟨bq,turned (cut p t l b x) u,rfl,M,c6,aD H5 d (.dK ((lu o (bq,turned (cut p t l b x) u)).map jm)),.inl ⟨o.map jm,_,m _ _ O.tbl,rfl,by rw[JZ];exact aX (by have:=O.len;omega),by rw[e1]⟩,⟨_,S5.congr λy=>?_⟩,?_,?_,(a3.same m).dict (m _ _ O.tbl)⟩
     ·constructor
      ·rintro((z | ⟨k,I,g⟩) | z)
       ·exact .inl z
       ·exact .inr ⟨k,⋯,g⟩
       ·exact .inr ⟨u,⋯,z⟩
      ·rintro(z | ⟨k,I,g⟩)
       ·exact .inl (.inl z)
       ·by_cases hq:k=u
        ·exact .inr (by rw[g,hq])
        ·exact .inl (.inr ⟨k,⋯,g⟩)
     ·rw[ar (pV D O.tbl (by intro e;cases e))];exact m _ _ D
     ·rw[ar (pV B O.tbl (by intro e;cases e))];exact m _ _ B
    ·rintro σ H4 ⟨⟨o,O⟩,D,B,a3,U,T,rfl⟩
     refine⟨hi,⟨o,O.congr λy=>?_⟩,B,a3,_,_,_,_,rfl⟩
     constructor
     ·rintro(⟨j,I,g⟩ | ⟨k,I,g⟩)
      ·exact⟨j,⋯,g⟩
      ·exact⟨i,⋯,k,I,by rw[eW,mU];exact g⟩
     ·rintro⟨j,I,k,g,z3⟩
      by_cases hq:j=i
      ·rw[hq,eW,mU]at z3
       exact .inr ⟨k,g,z3⟩
      ·exact .inl ⟨j,⋯,k,g,z3⟩
  ·rintro σ H2 ⟨_,⟨R,S⟩,a2,C,x2,x3,U,T,rfl⟩
   walk_at "wp";refine⟨_,S.tbl,λv hv=>⟨d,af,R.map DV,?_,?_,?_⟩⟩
   ·rw[ar (aI S.tbl hv),S.tbl,Ka];rfl
   ·intro e he
    obtain⟨z,hz,rfl⟩:=KI.mp he;obtain⟨I,g,z3,z4,z5⟩:=S.each z hz;refine⟨?_,?_,?_⟩
    ·refine aN.of ?_
     show aD H2 v (u9 v d) z.1=some (.lst ((z.2.map tx).map V.str));rw[ar (aI g hv),g,fA]
    ·show z.2.map tx≠[]
     exact λe=>z3 (List.map_eq_nil_iff.mp e)
    ·show((z.2.map tx).headD ⟨#[]⟩).length<=64
     rw[xJ];exact z5
   ·intro es pe se H' l' a6 d3 b2
    obtain⟨ws,pw,rfl⟩:=tJ pe _ rfl;have Y:aB H2 (aD H2 v (u9 v d)):=ak hv;refine q H' l' ws (S.sm.trans (Y.trans a6)) (S.sm.free (Y.free d3)) ?_ ?_ ?_ ?_ (by have h1:=S.len;have h2:=pw.length_eq;rw[JZ]at h1;omega)
    ·rw[b2,Ka];rfl
    ·intro z hz
     obtain⟨I,g,_⟩:=S.each z (pw.mem_iff.mp hz);exact⟨I,a6 _ _ (Y _ _ g)⟩
    ·exact(pw.map _).nodup_iff.mpr S.nda
    ·refine⟨λy=>?_,yW se ((pw.map _).nodup_iff.mpr S.ndp)⟩
     rw[(pw.map _).mem_iff,S.mem,zr,JZ,d9]
abbrev Ky:=List Nat×List Nat
def pE(k:Ky):List V:=[.str (tx k.1),.str (tx k.2)]
def fD(k:Ky):List cM:=[.inr (tx k.1),.inr (tx k.2)]
theorem dB{a b:K0}(h:tx a=tx b):a=b:=by
 have e:(tx a).cps.toList=(tx b).cps.toList:=by rw[h]
 rwa [dj,dj]at e
theorem kt{a b:Ky}(h:fD a=fD b):a=b:=by
 obtain⟨a1,a2⟩:=a;obtain⟨b1,b2⟩:=b;unfold fD at h;simp only[List.cons.injEq,Sum.inr.injEq,and_true]at h;rw[dB h.1,dB h.2]
def bu(H:Hp)(a:Addr)(k:Ky):Prop:=H a=some (.tup (pE k))
theorem bu.up{H H':Hp}{a:Addr}{k:Ky}(h:bu H a k)(s:aB H H'):bu H' a k:=s _ _ h
theorem bu.put{H:Hp}{a l:Addr}{k:Ky}{xs:List V}{o:HO}(h:bu H a k)(hl:H l=some (.lst xs)):bu (aD H l o) a k:=by
 have b:H a=some (.tup (pE k)):=h;show aD H l o a=_;rw[ar (λz=>by rw[z,hl]at b;cases b)];exact b
abbrev bC(p:aO):List Nat:=SpM.glue 47 p
theorem xi{β:Type}{A:Hp->Addr->β->Prop}(u:∀{H H':Hp} {b:Addr} {y:β},A H b y->aB H H'->A H' b y){H H':Hp}{l:Addr}{ys:List β}(h:jE A H l ys)(s:aB H H'):jE A H' l ys:=by
 obtain⟨bs,h1,h2⟩:=h;exact⟨bs,s _ _ h1,h2.mono λb y _ _ q=>u q s⟩
abbrev iA:Hp->Addr->List Ky->Prop:=jE bu
theorem ig{H H':Hp}{b:Addr}{y:List Ky}(h:iA H b y)(s:aB H H'):iA H' b y:=xi (A:=bu) bu.up h s
def bP(sb:Bool)(p:aO)(m:Nat):List Ky:=(List.range (m-1)).map λj=>(bC (qJ sb p (j+1)),bC (lO sb p (j+1)))
def eJ(CC:Addr)(H:Hp)(c:Addr)(p:aO):Prop:=∃dx lp lb la,H c=some (.ins CC dx [("picture",.ref lp),("text",.str (tx (bC p))),("beside_texts",.ref lb),("above_texts",.ref la)])/\H lp=some (.lst (ao p))/\jE bu H lb (bP true p (p.headD []).length)/\jE bu H la (bP false p p.length)
theorem eJ.up{CC:Addr}{H H':Hp}{c:Addr}{p:aO}(h:eJ CC H c p)(s:aB H H'):eJ CC H' c p:=by
 obtain⟨i,a,b,d,h1,h2,g,e⟩:=h;exact⟨i,a,b,d,s _ _ h1,s _ _ h2,xi (A:=bu) bu.up g s,xi (A:=bu) bu.up e s⟩
def bL(r:Nat×RV)(p:aO):List (List Ky):=match r.1 with
 |0=>if bC p=r.2.sg then[[]] else[]
 |1=>(bP true p (p.headD []).length).map λk=>[(k.1,r.2.o1),(k.2,r.2.o2)]
 |2=>(bP false p p.length).map λk=>[(k.1,r.2.o1),(k.2,r.2.o2)]
 |_=>[[(bC (turned p (cY r.2.t.toNat)),r.2.o1)]]
def bS(T:Ky->Option Int):Int->List Ky->Option Int
 |c,[]=>some c
 |c,k::ks=>match T k with
  |none=>none
  |some v=>bS T (c+v) ks
def iV(H:Hp)(d:Addr)(T:Ky->Option Int):Prop:=∃kvs,H d=some (.dT kvs)/\∀k,dM kvs (fD k)=(T k).map V.int
theorem iV.up{H H':Hp}{d:Addr}{T:Ky->Option Int}(h:iV H d T)(s:aB H H'):iV H' d T:=let ⟨kvs,h1,h2⟩:=h;⟨kvs,s _ _ h1,h2⟩
theorem iV.get{H:Hp}{d b:Addr}{T:Ky->Option Int}{k:Ky}(h:iV H d T)(hb:bu H b k):kN H d (.ref b) ((T k).map V.int):=by
 obtain⟨kvs,h1,h2⟩:=h;rw[<- h2 k];exact kN.t h1 hb
structure iE(p:aO)(r c:Nat):Prop where
 rc:rect p r c
 r0:0<r
 r6:r<=6
 c0:0<c
 c6:c<=6
theorem iE.small{p:aO}{r c:Nat}(h:iE p r c):c4 p:=c4.of h.rc (by have:=h.r6;omega) (by have:=h.c6;omega)
theorem q8{H:Hp}{a l C dx:Addr}{ks:List Ky}{fs:List (Str×V)}{o:HO}(h:jE bu H l ks)(ha:H a=some (.ins C dx fs)):jE bu (aD H a o) l ks:=by
 obtain⟨bs,h1,h2⟩:=h;exact⟨bs,by rw[ar (λz=>by rw[z,ha]at h1;cases h1)];exact h1,h2.mono λb y _ _ q=>by
  have c:H b=some (.tup (pE y)):=q;show aD H a o b=_;rw[ar (λz=>by rw[z,ha]at c;cases c)];exact c⟩
theorem b9{c:Prop}[Decidable c]{A B:Prop}(hA:c->A)(hB:¬ c->B):if c then A else B:=by
 by_cases h:c
 ·rw[q07 h];exact hA h
 ·rw[q06 h];exact hB h
abbrev fC:Stmt:=fP 26
inductive ir(K:W.Frag)(vs:List V)(H:Hp)(Q:VK)(_E:XK):Prop
 |mk (sb:Bool) (a:Addr) (p:aO) (r c m:Nat) (_:vs=[.ref a,.bl sb,.int (m:Int)]) (_:aN K H a (ao p)) (_:iE p r c) (_:m=(if sb=true then c else r)) (_:∀l H',H l=none->jE bu H' l (bP sb p m)->aB H H'->Q (.ref l) H')
theorem mK:aE ["picture","side_by_side","many","texts","at","two"] ["picture","side_by_side","many"] (av fC):=by walk_at "c"
theorem rC{sb:Bool}{p:aO}{r c n:Nat}(h:iE p r c):c4 (qJ sb p n)/\c4 (lO sb p n):=by
 have:=h.small;cases sb with
 |true=>
  refine⟨⟨?_,λx a=>?_⟩,⟨?_,λx a=>?_⟩⟩
  ·show(p.map _).length<=_;rw[JZ];exact this.1
  ·obtain⟨y,b,rfl⟩:=KI.mp a
   rw[KA];exact Ks (Nat.min_le_right _ _) (this.2 y b)
  ·show(p.map _).length<=_;rw[JZ];exact this.1
  ·obtain⟨y,b,rfl⟩:=KI.mp a
   rw[KC];exact Ks (Nat.sub_le _ _) (this.2 y b)
 |false=>
  refine⟨⟨?_,λx a=>?_⟩,⟨?_,λx a=>?_⟩⟩
  ·show(p.take n).length<=_;rw[KA];exact Ks (Nat.min_le_right _ _) this.1
  ·exact this.2 x (q0H a)
  ·show(p.drop n).length<=_;rw[KC];exact Ks (Nat.sub_le _ _) this.1
  ·exact this.2 x (q0I a)
theorem mL{f:Addr}{fd:K5}(F:dr K "parted_texts" "parted_texts" fC f fd)(nb:NB mg)(yaN:dG P w K mg base bD 1 "parted" ["picture","side_by_side","at"] (qD K))(yab:dG P w K mg base bD 1 "shown" ["picture"] (gC K)):br P w K mg base bD 2 f fd ["picture","side_by_side","many"] (ir K):=by
 have sc:=mK;walk_at "f"
 ·obtain⟨sb,a,p,r,c,m,rfl,Z,e,S,q⟩:=h
  have:=e.r6;have:=e.c6;have:=e.r0;have:=e.c0;have m1:1<=m/\m<=6:=by rw[S];split<;>omega
  refine⟨_,(ae (q01 3 sc.nd (bz ad))
   (ae (bg PassesOwn.never rfl (gF rfl nb.range (b7 (ac (am 2) ad))) (q02 4 sc.nd)
   (ae (q01 5 sc.nd (q00 yaN hr (ac (am 0) (ac (am 1) (ac (am 4) ad)))))
   (ag (bo (q03 (am 3) (ac (bN (ac (q00 yab hr (ac (aU bH (am 5) ai (λ_ _=>rfl)) ad)) (ac (q00 yab hr (ac (aU bH (am 5) ai (λ_ _=>rfl)) ad)) ad))) ad))))))
   (ag (aK (am 3))))),?_⟩
  walk_at "n";refine⟨Kk _,λl J=>h1 _ _ ?_⟩;clear h1;generalize v:aD H l _=H1;obtain⟨T,e1⟩:=dU J v;walk_at "n";rw[show((m:Int)-1).toNat=m-1 by omega];refine⟨by decide,⋯,⋯,?_⟩;refine cr (lo:=1) (n:=m-1) (λi σ g=>aB H g/\i<=m-1/\(∃bs:List Addr,g l=some (.lst (bs.map V.ref))/\aS bu g bs ((List.range i).map λj=>(bC (qJ sb p (j+1)),bC (lO sb p (j+1)))))/\∃x y,σ=[some (V.ref a),some (V.bl sb),some (V.int (m:Int)),some (V.ref l),x,y]) ⟨T,Kk _,⟨[],e1,aS.nil⟩,_,_,rfl⟩ ?_ ?_
  ·rintro i σ g hi ⟨o,_,⟨bs,M,u⟩,x,y,rfl⟩
   walk_at "n";refine⟨sb,a,p,r,c,i+1,by push_cast;rw[Int.add_comm],o.seq Z,e.rc,⋯,⋯,by rw[<- S];omega,λt Y U H2 ht hl1 hl2 hne et R O G=>h1 _ _ ?_⟩;clear h1;obtain⟨C,B⟩:=rC (sb:=sb) (n:=i+1) e;walk_at "wp";have k:=G _ _ M;refine⟨.inl ⟨rfl,_,aN.of k⟩,_,dt.of et,_,rfl,Y,qJ sb p (i+1),rfl,R,C,_,dt.of et,_,rfl,U,lO sb p (i+1),rfl,O,B,au (by decide),λz I=>?_⟩;generalize v:aD H2 z _=H3;obtain⟨D,(e3:bu H3 z (bC (qJ sb p (i+1)),bC (lO sb p (i+1))))⟩:=dU I v;have d:=D _ _ k;have L:=u.1;rw[JZ,q0J]at L;refine⟨_,d,by rw[JZ];exact aX ⋯,bK ((o.trans G).trans D) J,⋯,bs++[z],by rw[af,J_];rfl,?_⟩;rw[q0M,J_];exact(u.mono λb y _ _ h=>((h.up G).up D).put d).snoc (e3.put d)
  ·rintro σ g ⟨o,_,⟨bs,M,u⟩,x,y,rfl⟩
   refine h1 _ _ ?_;walk_at "wp";exact q l g J ⟨bs,M,u⟩ o
abbrev fY:Stmt:=jp 25 0
def DP(K:W.Frag)(C:Addr):Prop:=aF K C "picture"/\aF K C "text"/\aF K C "beside_texts"/\aF K C "above_texts"
inductive il(K:W.Frag)(vs:List V)(H:Hp)(Q:VK)(_E:XK):Prop
 |mk (a C dx b:Addr) (p:aO) (r c:Nat) (_:vs=[.ref a,.ref b]) (_:H a=some (.ins C dx [])) (_:jv K C) (_:DP K C) (_:H b=some (.lst (ao p))) (_:iE p r c) (_:∀H',eJ C H' a p->bh a H H'->Q .non H')
theorem rW:aE ["self","picture"] ["self","picture"] (av fY):=by walk_at "c"
theorem sK{f:Addr}{fd:K5}(F:dr K "__init__" "Cuts.__init__" fY f fd)(nb:NB mg)(yab:dG P w K mg base bD 1 "shown" ["picture"] (gC K))(yal:dG P w K mg base bD 2 "parted_texts" ["picture","side_by_side","many"] (ir K)):br P w K mg base bD 3 f fd ["self","picture"] (il K):=by
 have sc:=rW;walk_at "f"
 ·obtain⟨a,C,d,b,p,r,c,rfl,R,G,⟨n1,n2,n3,n4⟩,n,i,q⟩:=h
  refine⟨_,(ae (cW (am 0) (cU cI rfl nb.list fq (ac (am 1) ad)) rfl)
   (ae (cW (am 0) (q00 yab hr (ac (am 1) ad)) rfl)
   (ae (cW (am 0) (q00 yal hr (ac (am 1) (ac gM (ac (aA aT rfl nb.len aW (ac (aU aY (am 1) ai (λ_ _=>rfl)) ad)) ad)))) rfl)
   (ag (cW (am 0) (q00 yal hr (ac (am 1) (ac gM (ac (aA aZ rfl nb.len aW (ac (am 1) ad)) ad)))) rfl))))),?_⟩
  walk_at "n";refine⟨_,.inl (aN.of n),λl z=>⟨C,d,_,ak z _ _ R,G,n1,by decide,h1 _ _ ?_⟩⟩;clear h1;have j:l≠a:=λe=>by rw[e,R]at z;cases z
  have k:b≠a:=λe=>by rw[e,R]at n;cases n
  have L:bh a H (aD (aD H l (.lst (ao p))) a (.ins C d [("picture",.ref l)])):=(bh.of (ak z)).put;have e1:aD (aD H l (.lst (ao p))) a (.ins C d [("picture",.ref l)]) a=some (.ins C d [("picture",.ref l)]):=af;have l1:aD (aD H l (.lst (ao p))) a (.ins C d [("picture",.ref l)]) l=some (.lst (ao p)):=by rw[ar j,af]
  change yC _ _ _ _ (aD (aD H l (.lst (ao p))) a (.ins C d [("picture",.ref l)]));generalize aD (aD H l (.lst (ao p))) a (.ins C d [("picture",.ref l)])=H1 at L e1 l1 ⊢;have b1:=L _ _ k n;have d1:¬ (("picture":Str)="text"):=by decide +kernel
  have d2:¬ (("picture":Str)="beside_texts"):=by decide +kernel
  have d3:¬ (("picture":Str)="above_texts"):=by decide +kernel
  have d4:¬ (("text":Str)="beside_texts"):=by decide +kernel
  have d5:¬ (("text":Str)="above_texts"):=by decide +kernel
  have d6:¬ (("beside_texts":Str)="above_texts"):=by decide +kernel
  have U:cJ "text" (V.str (tx (bC p))) [(("picture":Str),V.ref l)]=[(("picture":Str),V.ref l),(("text":Str),V.str (tx (bC p)))]:=by simp only[cJ,q06 d1]
  walk_at "n";refine⟨b,p,rfl,b1,i.small,C,d,_,e1,G,n2,by simp,?_⟩;rw[U];refine h1 _ _ ?_;clear h1;have J:bh a H (aD H1 a (.ins C d [("picture",.ref l),("text",.str (tx (bC p)))])):=L.put;have D:aD H1 a (.ins C d [("picture",.ref l),("text",.str (tx (bC p)))]) a=some (.ins C d [("picture",.ref l),("text",.str (tx (bC p)))]):=af;have Z:aD H1 a (.ins C d [("picture",.ref l),("text",.str (tx (bC p)))]) l=some (.lst (ao p)):=by rw[ar j];exact l1
  generalize aD H1 a (.ins C d [("picture",.ref l),("text",.str (tx (bC p)))])=H2 at J D Z ⊢;have b2:=J _ _ k n;have:=i.r6;have:=i.c6;obtain⟨O,o⟩:=cT i.rc i.r0;walk_at "n";refine⟨_,aN.of b2,_,(show iC _ ((0:Nat):Int)=_ from bx (ba O)),_,rfl,by rw[ax];exact au ⋯,?_⟩;rw[ax,o];refine⟨true,b,p,r,c,c,rfl,aN.of b2,i,rfl,λg x u eb y=>⟨C,d,_,y _ _ D,G,n3,by simp,?_⟩⟩;have hbl:g≠a:=λe=>by rw[e,D]at u;cases u
  have T:cJ "beside_texts" (V.ref g) [(("picture":Str),V.ref l),(("text":Str),V.str (tx (bC p)))]=[(("picture":Str),V.ref l),(("text":Str),V.str (tx (bC p))),(("beside_texts":Str),V.ref g)]:=by simp only[cJ,q06 d2,q06 d4]
  rw[T];refine h1 _ _ ?_;clear h1;have I:bh a H (aD x a (.ins C d [("picture",.ref l),("text",.str (tx (bC p))),("beside_texts",.ref g)])):=(J.then y).put;have B:aD x a (.ins C d [("picture",.ref l),("text",.str (tx (bC p))),("beside_texts",.ref g)]) a=some (.ins C d [("picture",.ref l),("text",.str (tx (bC p))),("beside_texts",.ref g)]):=af;have Y:aD x a (.ins C d [("picture",.ref l),("text",.str (tx (bC p))),("beside_texts",.ref g)]) l=some (.lst (ao p)):=by rw[ar j];exact y _ _ Z
  have v:jE bu (aD x a (.ins C d [("picture",.ref l),("text",.str (tx (bC p))),("beside_texts",.ref g)])) g (bP true p c):=q8 eb (y _ _ D);generalize aD x a (.ins C d [("picture",.ref l),("text",.str (tx (bC p))),("beside_texts",.ref g)])=H4 at I B Y v ⊢;have b3:=I _ _ k n;walk_at "wp";refine⟨_,aN.of b3,?_⟩;rw[aj,i.rc.1];refine⟨false,b,p,r,c,r,rfl,aN.of b3,i,rfl,λM H5 hla5 ea m=>⟨C,d,_,m _ _ B,G,n4,by simp,?_⟩⟩;have S:cJ "above_texts" (V.ref M) [(("picture":Str),V.ref l),(("text":Str),V.str (tx (bC p))),(("beside_texts":Str),V.ref g)]=[(("picture":Str),V.ref l),(("text":Str),V.str (tx (bC p))),(("beside_texts":Str),V.ref g),(("above_texts":Str),V.ref M)]:=by simp only[cJ,q06 d3,q06 d5,q06 d6]
  rw[S];refine q _ ⟨d,l,g,M,af,by rw[ar j];exact m _ _ Y,?_,?_⟩ ((I.then m).put)
  ·rw[bc i.rc i.r0]
   exact q8 (xi (A:=bu) bu.up v m) (m _ _ B)
  ·rw[i.rc.1]
   exact q8 ea (m _ _ B)
abbrev dX:Stmt:=jp 25 1
inductive fE(CC:Addr)(vs:List V)(H:Hp)(Q:VK)(_E:XK):Prop
 |mk (a:Addr) (p:aO) (r c t:Nat) (_:vs=[.ref a,.int (t:Int)]) (_:eJ CC H a p) (_:iE p r c) (_:t<8) (_:∀H',aB H H'->Q (.str (tx (bC (turned p t)))) H')
theorem m9:aE ["self","t"] ["self","t"] (av dX):=by walk_at "c"
theorem iE.turned{p:aO}{r c:Nat}(h:iE p r c)(t:Nat):∃r' c',iE (turned p t) r' c':=by
 have:=cF h.rc h.r0 h.c0 t;have h1:=h.r0;have h2:=h.c0;have h3:=h.r6;have h4:=h.c6;exact⟨_,_,this,by split<;>omega,by split<;>omega,by split<;>omega,by split<;>omega⟩
theorem ol{f CC:Addr}{fd:K5}(F:dr K "turned_text" "Cuts.turned_text" dX f fd)(nb:NB mg)(cl:jv K CC)(na:DP K CC)(zla:dG P w K mg base bD 3 "turned" ["picture","t"] (i8 K))(yab:dG P w K mg base bD 1 "shown" ["picture"] (gC K)):br P w K mg base bD 4 f fd ["self","t"] (fE CC):=by
 have sc:=m9;walk_at "f"
 ·obtain⟨a,p,r,c,t,rfl,⟨n,g,lb,la,k,j,_,_⟩,b,i,q⟩:=h
  refine⟨_,(ag (aK (q00 yab hr (ac (q00 zla hr (ac (cC (am 0) rfl) (ac (am 1) ad))) ad)))),?_⟩;have:=b.r6;have:=b.c6;obtain⟨r',c',d⟩:=b.turned t;walk_at "wp";refine⟨CC,n,_,k,cl,na.1,_,rfl,g,p,r,c,t,rfl,aN.of j,b.rc,b.r0,b.c0,⋯,⋯,i,λl H1 hl m e=>⟨l,turned p t,rfl,m,d.small,q H1 e⟩⟩
def lB(H0 H:Hp)(b:Addr)(y:List Ky):Prop:=H0 b=none/\iA H b y
theorem lB.up{H0 H H':Hp}{b:Addr}{y:List Ky}(h:lB H0 H b y)(s:aB H H'):lB H0 H' b y:=⟨h.1,ig h.2 s⟩
inductive dv(CC C:Addr)(t:Nat)(vs:List V)(H:Hp)(Q:VK)(_E:XK):Prop
 |mk (a dx lp cu:Addr) (v:RV) (p:aO) (r c:Nat) (_:vs=[.ref a,.ref cu]) (_:H a=some (.ins C dx (tH t lp v))) (_:eJ CC H cu p) (_:iE p r c) (_:0<=v.t) (_:v.t<=7) (_:∀l H',H l=none->jE (lB H) H' l (bL (t,v) p)->aB H H'->Q (.ref l) H')
abbrev fS:Stmt:=jp 36 4
theorem q_:aE ["self","cuts"] ["self","cuts"] (av fS):=by walk_at "c"
theorem rG{f CC C:Addr}{fd:K5}(F:dr K "ways" "CellRule.ways" fS f fd)(cc:jv K CC)(nc:DP K CC)(cl:jv K C)(na:aF K C "sign"):br P w K mg base bD 1 f fd ["self","cuts"] (dv CC C 0):=by
 have sc:=q_;walk_at "f"
 ·obtain⟨a,k,lp,cu,v,p,r,c,rfl,j,⟨l,b,l2,l3,i,_,_,_⟩,hp,t0,t7,q⟩:=h
  refine⟨_,(ag (aK (zJ (aL dm (cC (am 1) rfl) (cC (am 0) rfl) (aQ _)) (bz (ac (bz ad) ad)) (bz ad)))),?_⟩;walk_at "wp";refine⟨CC,l,_,i,cc,nc.2.1,_,rfl,C,k,_,j,cl,na,_,rfl,rfl,?_⟩;refine b9 (λe=>?_) (λe=>?_)
  ·rw[show bL (0,v) p=[[]] from q07 (dB (V.str.inj e))]at q
   exact⟨Kk _,λg d=>⟨au (by decide),λb h1=>q b _ ((ak d).free h1) ⟨[g],af,aS.one ⟨d,[],ak h1 _ _ af,aS.nil⟩⟩ ((ak d).trans (ak h1))⟩⟩
  ·rw[show bL (0,v) p=[] from q06 λh=>e (by rw[h])]at q
   exact⟨Kk _,λb h1=>q b _ h1 ⟨[],af,aS.nil⟩ (ak h1)⟩
abbrev d0:Stmt:=jp 37 4
theorem oj:aE ["self","cuts"] ["self","cuts"] (av d0):=by walk_at "c"
theorem oy{f CC C:Addr}{fd:K5}(F:dr K "ways" "BesideRule.ways" d0 f fd)(cc:jv K CC)(nc:DP K CC)(cl:jv K C)(na:aF K C "one"/\aF K C "other"):br P w K mg base bD 1 f fd ["self","cuts"] (dv CC C 1):=by
 have sc:=oj;walk_at "f"
 ·obtain⟨a,Y,lp,cu,v,p,r,c,rfl,ha,⟨dc,l1,l2,l3,hc,_,⟨bs,U,O⟩,_⟩,J,t0,t7,q⟩:=h
  have hu:=hr.units;refine⟨_,(ag (aK (bZ ["first","second"] [0] rfl (bE.of (by kernel_rfl)) (by kernel_rfl) (bi (cC (am 1) rfl))
    (λ_ _ _ _=>(mR (K:=K) (n:=2) rfl rfl (bf (ay (i:=0) (by show(["first","second","self"]:List Str).Nodup;decide +kernel) rfl (Or.inl rfl)) (bf (ay (i:=1) (by show(["first","second","self"]:List Str).Nodup;decide +kernel) rfl (Or.inl rfl)) dQ)))) (λ_ _ _ _=>bW) (λ_ _ _ _=>(bz (ac (bN (ac (am 0) (ac (mO (K:=K) rfl (am 2) rfl) ad))) (ac (bN (ac (am 1) (ac (mO (K:=K) rfl (am 2) rfl) ad))) ad))))))),?_⟩
  walk_at "wp";refine⟨CC,dc,_,hc,cc,nc.2.2.1,_,rfl,_,rfl,⟨_,aN.of U⟩,?_⟩;have m:(bs.zip (bP true p (p.headD []).length)).length=(bL (1,v) p).length:=by
   show _=((bP true p (p.headD []).length).map _).length;rw[q0N,O.1,JZ,Nat.min_self]
  have hpl:(bP true p (p.headD []).length).length<=6:=by
   unfold bP;rw[JZ,q0J,bc J.rc J.r0];have:=J.c6;omega
  refine oZ (lB H) lB.up (as:=bs.zip (bP true p (p.headD []).length)) (emb:=λx=>V.ref x.1) (ys:=bL (1,v) p) m (λσ=>∃x y,σ=[x,y,some (V.ref a)]) ⟨_,_,rfl⟩ (λR s=>by rw[<- O.zip];exact aN.of (s _ _ U)) (by rw[q0N];omega) ?_ ?_
  ·rintro i ⟨b,k⟩ y hx hy σ R N1 N0 ⟨x0,y0,rfl⟩ d k1
   obtain⟨L,M⟩:=O.at hx;have L:(bP true p (p.headD []).length)[i]?=some k:=L;have j:((bP true p (p.headD []).length).map λk=>[(k.1,v.o1),(k.2,v.o2)])[i]?=some y:=hy;rw[J1,L]at j;cases j;walk_at "wp";have Z:=d _ _ ha;refine⟨_,dt.of (d _ _ M),rfl,_,_,rfl,_,_,rfl,rfl,C,Y,_,Z,cl,na.1,_,rfl,au (by decide),λz I=>?_⟩;generalize D:aD R z _=H1;obtain⟨T,(e1:bu H1 z (k.1,v.o1))⟩:=dU I D;refine⟨C,Y,_,T _ _ Z,cl,na.2,_,rfl,au (by decide),λu G=>⟨au (by decide),λl g=>?_⟩⟩;generalize D:aD H1 u _=H2 at g ⊢;obtain⟨S,(e2:bu H2 u (k.2,v.o2))⟩:=dU G D;have B:=ak (o:=.lst [V.ref z,V.ref u]) g;have e:=T.trans S;exact k1 l _ _ ⟨d.free (e.free g),[z,u],af,aS.two ((e1.up S).up B) (e2.up B)⟩ (d.trans (e.trans B)) (e.trans B) ⟨_,_,rfl⟩
  ·intro ws R d hW l g
   exact q l _ (d.free g) ⟨ws,af,hW.mono λb y _ _ h=>lB.up h (ak g)⟩ (d.trans (ak g))
abbrev fo:Stmt:=jp 38 4
theorem pi:aE ["self","cuts"] ["self","cuts"] (av fo):=by walk_at "c"
theorem pd{f CC C:Addr}{fd:K5}(F:dr K "ways" "AboveRule.ways" fo f fd)(cc:jv K CC)(nc:DP K CC)(cl:jv K C)(na:aF K C "one"/\aF K C "other"):br P w K mg base bD 1 f fd ["self","cuts"] (dv CC C 2):=by
 have sc:=pi;walk_at "f"
 ·obtain⟨a,Y,lp,cu,v,p,r,c,rfl,ha,⟨dc,l1,l2,l3,hc,_,_,⟨bs,U,M⟩⟩,T,t0,t7,q⟩:=h
  have hu:=hr.units;refine⟨_,(ag (aK (bZ ["first","second"] [0] rfl (bE.of (by kernel_rfl)) (by kernel_rfl) (bi (cC (am 1) rfl))
    (λ_ _ _ _=>(mR (K:=K) (n:=2) rfl rfl (bf (ay (i:=0) (by show(["first","second","self"]:List Str).Nodup;decide +kernel) rfl (Or.inl rfl)) (bf (ay (i:=1) (by show(["first","second","self"]:List Str).Nodup;decide +kernel) rfl (Or.inl rfl)) dQ)))) (λ_ _ _ _=>bW) (λ_ _ _ _=>(bz (ac (bN (ac (am 0) (ac (mO (K:=K) rfl (am 2) rfl) ad))) (ac (bN (ac (am 1) (ac (mO (K:=K) rfl (am 2) rfl) ad))) ad))))))),?_⟩
  walk_at "wp";refine⟨CC,dc,_,hc,cc,nc.2.2.2,_,rfl,_,rfl,⟨_,aN.of U⟩,?_⟩;have m:(bs.zip (bP false p p.length)).length=(bL (2,v) p).length:=by
   show _=((bP false p p.length).map _).length;rw[q0N,M.1,JZ,Nat.min_self]
  have hpl:(bP false p p.length).length<=6:=by
   unfold bP;rw[JZ,q0J,T.rc.1];have:=T.r6;omega
  refine oZ (lB H) lB.up (as:=bs.zip (bP false p p.length)) (emb:=λx=>V.ref x.1) (ys:=bL (2,v) p) m (λσ=>∃x y,σ=[x,y,some (V.ref a)]) ⟨_,_,rfl⟩ (λO s=>by rw[<- M.zip];exact aN.of (s _ _ U)) (by rw[q0N];omega) ?_ ?_
  ·rintro i ⟨b,k⟩ y hx hy σ O N1 N0 ⟨x0,y0,rfl⟩ d k1
   obtain⟨J,L⟩:=M.at hx;have J:(bP false p p.length)[i]?=some k:=J;have j:((bP false p p.length).map λk=>[(k.1,v.o1),(k.2,v.o2)])[i]?=some y:=hy;rw[J1,J]at j;cases j;walk_at "wp";have Z:=d _ _ ha;refine⟨_,dt.of (d _ _ L),rfl,_,_,rfl,_,_,rfl,rfl,C,Y,_,Z,cl,na.1,_,rfl,au (by decide),λz I=>?_⟩;generalize D:aD O z _=H1;obtain⟨S,(e1:bu H1 z (k.1,v.o1))⟩:=dU I D;refine⟨C,Y,_,S _ _ Z,cl,na.2,_,rfl,au (by decide),λu G=>⟨au (by decide),λl g=>?_⟩⟩;generalize D:aD H1 u _=H2 at g ⊢;obtain⟨R,(e2:bu H2 u (k.2,v.o2))⟩:=dU G D;have B:=ak (o:=.lst [V.ref z,V.ref u]) g;have e:=S.trans R;exact k1 l _ _ ⟨d.free (e.free g),[z,u],af,aS.two ((e1.up R).up B) (e2.up B)⟩ (d.trans (e.trans B)) (e.trans B) ⟨_,_,rfl⟩
  ·intro ws O d hW l g
   exact q l _ (d.free g) ⟨ws,af,hW.mono λb y _ _ h=>lB.up h (ak g)⟩ (d.trans (ak g))
abbrev gg:Stmt:=jp 39 4
theorem sL:aE ["self","cuts"] ["self","cuts"] (av gg):=by walk_at "c"
theorem rT{f CC C:Addr}{fd:K5}(F:dr K "ways" "TurnRule.ways" gg f fd)(cc:jn K CC)(cl:jv K C)(na:aF K C "part"/\aF K C "turning")(zIa:jk P w K mg base bD 4 CC "turned_text" ["self","t"] (fE CC))(yaB:dG P w K mg base bD 1 "back" ["t"] xC):br P w K mg base bD 5 f fd ["self","cuts"] (dv CC C 3):=by
 have sc:=sL;walk_at "f"
 ·obtain⟨a,B,lp,M,v,p,r,c,rfl,y,z,G,D,t7,q⟩:=h
  refine⟨_,(ag (aK (bz (ac (bz (ac (bN (ac (qN zIa (hr.mono (by decide)) aJ (am 1) (ac (q00 yaB hr (ac (cC (am 0) rfl) ad)) ad)) (ac (cC (am 0) rfl) ad))) ad)) ad)))),?_⟩;walk_at "wp";obtain⟨L,g,x,l3,I,hr1⟩:=id z;refine⟨L,_,I,rfl,C,B,_,y,cl,na.2,_,rfl,v.t.toNat,?_,⋯,?_⟩
  ·rw[KR D]
  have u:cY v.t.toNat<8:=(by decide:∀t,t<8->cY t<8) _ ⋯;refine⟨M,p,r,c,cY v.t.toNat,rfl,z,G,u,λH1 e=>⟨C,B,_,e _ _ y,cl,na.1,_,rfl,au (by decide),λj n=>⟨au (by decide),λg d=>⟨au (by decide),λx b=>?_⟩⟩⟩⟩;generalize i:aD H1 j _=H2 at d b ⊢;obtain⟨m,(e2:bu H2 j (bC (turned p (cY v.t.toNat)),v.o1))⟩:=dU n i;generalize i:aD H2 g _=H3 at b ⊢;obtain⟨l,J⟩:=dU d i;have k:=ak (o:=.lst [V.ref g]) b;exact q x _ (e.free (m.free (l.free b))) ⟨[g],af,aS.one ⟨e.free (m.free d),[j],k _ _ J,aS.one ((e2.up l).up k)⟩⟩ (e.trans (m.trans (l.trans k)))
def oQ(R:RC)(CC:Addr):List (Addr×Sp):=[(R.cc,dv CC R.cc 0),(R.cb,dv CC R.cb 1),(R.ca,dv CC R.ca 2),(R.ct,dv CC R.ct 3)]
theorem Al{R:RC}{CC:Addr}{H:Hp}{k a cu:Addr}{v:RV}{p:aO}{r c:Nat}{Q:VK}{E:XK}(hk:k<4)(ra:gm R H k a v)(hC:eJ CC H cu p)(hp:iE p r c)(t0:0<=v.t)(t7:v.t<=7)(q:∀l H',H l=none->jE (lB H) H' l (bL (k,v) p)->aB H H'->Q (.ref l) H') :
  ∃o∈oQ R CC,∃dx fs,H a=some (.ins o.1 dx fs)/\fs.lookup ("ways":Str)=none/\o.2 [.ref a,.ref cu] H Q E:=by
 obtain⟨dx,l,h1,h2⟩:=ra;rcases dZ hk with rfl | rfl | rfl | rfl
 ·exact⟨(R.cc,dv CC R.cc 0),by simp[oQ],dx,_,h1,rfl,a,dx,l,cu,v,p,r,c,rfl,h1,hC,hp,t0,t7,q⟩
 ·exact⟨(R.cb,dv CC R.cb 1),by simp[oQ],dx,_,h1,rfl,a,dx,l,cu,v,p,r,c,rfl,h1,hC,hp,t0,t7,q⟩
 ·exact⟨(R.ca,dv CC R.ca 2),by simp[oQ],dx,_,h1,rfl,a,dx,l,cu,v,p,r,c,rfl,h1,hC,hp,t0,t7,q⟩
 ·exact⟨(R.ct,dv CC R.ct 3),by simp[oQ],dx,_,h1,rfl,a,dx,l,cu,v,p,r,c,rfl,h1,hC,hp,t0,t7,q⟩
abbrev lN:Stmt:=fP 27
def Fx:Option Int->V
 |some c=>.int c
 |none=>.non
inductive nh(R:RC)(vs:List V)(H:Hp)(Q:VK)(_E:XK):Prop
 |mk (a lw d:Addr) (k:Nat) (v:RV) (way:List Ky) (T:Ky->Option Int) (_:vs=[.ref a,.ref lw,.ref d]) (_:gm R H k a v) (_:iA H lw way) (_:iV H d T) (_:Q (Fx (bS T v.c way)) H)
theorem vA:aE ["rule","way","told","cost","key"] ["rule","way","told"] (av lN):=by walk_at "c"
theorem ww{R:RC}{f:Addr}{fd:K5}(F:dr K "cost_by" "cost_by" lN f fd)(nb:NB mg)(rk:lI K R):br P w K mg base bD 1 f fd ["rule","way","told"] (nh R):=by
 have sc:=vA;walk_at "f"
 ·obtain⟨a,J,d,k,v,e,T,rfl,⟨rdx,I,n,_⟩,⟨bs,C,D⟩,O,q⟩:=h
  have B:=hr.units;refine⟨_,(ae (q01 3 sc.nd (cC (am 0) rfl))
   (ae (bg PassesOwn.never rfl (bi (am 1)) (q02 4 sc.nd)
   (ae (bJ (tf (qH (KG (KL (by decide:1<=64) _) B) (am 4) (am 2)) (by with_unfolding_all rfl))
   (ag (aK kL))
   aV)
   (ag (q01 3 sc.nd (aw (bj.m0 bO) (am 3) (ik (KG (KL (by decide:1<=64) _) B) (am 2) (am 4) (λ_ _=>rfl)))))))
   (ag (aK (am 3))))),?_⟩
  walk_at "n";refine⟨_,_,_,n,(rk.icls k).cl,(rk.name k).2.1,_,(jd I v k).2.1,h1 _ _ ?_⟩;walk_at "nc";refine⟨⟨_,aN.of C⟩,?_⟩;refine bQ (xs:=bs.map V.ref) (λi σ m=>m=H/\i<=e.length/\∃(c:Int) (x:Option V),bS T v.c e=bS T c (e.drop i)/\σ=[some (V.ref a),some (V.ref J),some (V.ref d),some (V.int c),x]) ⟨rfl,Kk _,v.c,_,rfl,rfl⟩ (λi σ m _ h=>by rw[h.1];exact aN.of C) ?_ ?_
  ·rintro i x σ m z ⟨rfl,L,c,G,j,rfl⟩
   rw[J1]at z;obtain⟨b,y,rfl⟩:=Kn.mp z;obtain⟨g,p,o⟩:=D.get y;have kH:=(JX.mp p).1;have M:e.drop i=g::e.drop (i+1):=by
    rw[q0T kH];rw[JW kH]at p;cases p;rfl
   rw[M,show bS T c (g::e.drop (i+1))=(match T g with | none=>none | some v=>bS T (c+v) (e.drop (i+1))) from rfl]at j;have r:=O.get o;walk_at "n";refine⟨_,r,?_⟩;cases l:T g with
   |none=>
    rw[l]at j;rw[q07 (by rfl)];rw[show bS T v.c e=none from j]at q;exact q
   |some u=>
    rw[l]at j r;rw[q06 (by simp)];refine h1 _ _ ?_;clear h1;walk_at "wp";exact⟨_,r,_,rfl,kH,_,j,rfl⟩
  ·rintro σ m ⟨rfl,L,c,G,j,rfl⟩
   refine h1 _ _ ?_;walk_at "wp";rw[JZ,D.1,List.drop_length]at j;rw[j]at q;exact q
def wF(T:Ky->Option Int)(p:aO)(n:Nat)(r:Nat×RV):List (Int×Nat×List Ky):=(bL r p).filterMap λw=>(bS T r.2.c w).map λc=>(c,n,w)
def cS(T:Ky->Option Int)(rs:Yaa)(p:aO)(n:Nat):List (Int×Nat×List Ky):=match rs[n]? with
 |none=>[]
 |some r=>wF T p n r
def rY(H:Hp)(b:Addr)(y:Int×Nat×List Ky):Prop:=∃lw,H b=some (.tup [.int y.1,.int (y.2.1:Int),.ref lw])/\iA H lw y.2.2
def iJ(l:Addr)(H:Hp)(b:Addr)(y:Int×Nat×List Ky):Prop:=∃lw,lw≠l/\H b=some (.tup [.int y.1,.int (y.2.1:Int),.ref lw])/\iA H lw y.2.2
theorem iJ.up{l:Addr}{H H':Hp}{b:Addr}{y:Int×Nat×List Ky}(h:iJ l H b y)(s:aB H H'):iJ l H' b y:=let ⟨lw,h0,h1,h2⟩:=h;⟨lw,h0,s _ _ h1,ig h2 s⟩
theorem mS{H:Hp}{a l:Addr}{y:List Ky}{xs:List V}{o:HO}(h:iA H a y)(hl:H l=some (.lst xs))(ne:a≠l):iA (aD H l o) a y:=by
 obtain⟨bs,h1,h2⟩:=h;exact⟨bs,by rw[ar ne];exact h1,h2.mono λb k _ _ q=>q.put hl⟩
theorem iJ.put{l:Addr}{H:Hp}{b:Addr}{y:Int×Nat×List Ky}{xs:List V}{o:HO}(h:iJ l H b y)(hl:H l=some (.lst xs)):iJ l (aD H l o) b y:=by
 obtain⟨c,a,h1,h2⟩:=h;exact⟨c,a,by rw[ar (λz=>by rw[z,hl]at h1;cases h1)];exact h1,mS h2 hl a⟩
abbrev o0:Stmt:=fP 28
inductive qk(R:RC)(CG CC:Addr)(vs:List V)(H:Hp)(Q:VK)(_E:XK):Prop
 |mk (g dx ln cu d:Addr) (sg st:K0) (as:K3) (rs:Yaa) (ns:K0) (p:aO) (r c:Nat) (T:Ky->Option Int) (_:vs=[.ref g,.ref ln,.ref cu,.ref d]) (_:dF R H CG dx g sg st as rs) (_:(∀r∈rs,lT r)) (_:H ln=some (.lst (wV ns))) (_:(∀n∈ns,n<rs.length)) (_:ns.length<=100) (_:eJ CC H cu p) (_:iE p r c) (_:iV H d T) (_:∀l H',H l=none->jE rY H' l (ns.flatMap (cS T rs p))->aB H H'->Q (.ref l) H')
theorem y_:aE ["grammar","numbers","cuts","told","found","number","rule","way","cost"] ["grammar","numbers","cuts","told"] (av o0):=by walk_at "c"
theorem lF{r:Nat×RV}{p:aO}{a c:Nat}(h4:r.1<4)(hp:iE p a c):(bL r p).length<=6:=by
 obtain⟨k,v⟩:=r;have:=hp.r6;have:=hp.c6;rcases dZ h4 with h | h | h | h<;>(simp only at h;subst h)
 ·show(if bC p=v.sg then[[]] else[]).length<=6
  split<;>simp
 ·show((bP true p (p.headD []).length).map _).length<=6
  unfold bP;rw[JZ,JZ,q0J,bc hp.rc hp.r0];omega
 ·show((bP false p p.length).map _).length<=6
  unfold bP;rw[JZ,JZ,q0J,hp.rc.1];omega
 ·show([[_]]:List (List Ky)).length<=6
  simp
theorem zi{α β:Type}(f:α->List β){xs:List α}{i:Nat}{x:α}(h:xs[i]?=some x):(xs.take (i+1)).flatMap f=(xs.take i).flatMap f++f x:=by
 rw[q0E,h,List.flatMap_append];simp
theorem xW{R:RC}{f CG CC:Addr}{fd:K5}(F:dr K "coming" "coming" o0 f fd)(nb:NB mg)(yai:jk P w K mg base bD 1 CG "rule" ["self","k"] (fb R CG))(yaz:vX P w K mg base bD 5 "ways" (oQ R CC))(yaR:dG P w K mg base bD 1 "cost_by" ["rule","way","told"] (nh R)):br P w K mg base bD 6 f fd ["grammar","numbers","cuts","told"] (qk R CG CC):=by
 have sc:=y_;walk_at "f"
 ·obtain⟨g,dx,ln,cu,d,sg,st,as,L,ns,p,r,c,T,rfl,hG,hg,b1,c2,hn100,hC,hp,hT,q⟩:=h
  have hu:=hr.units;refine⟨_,(ae (q01 4 sc.nd (bz ad))
   (ae (bg PassesOwn.never rfl (bi (am 1)) (q02 5 sc.nd)
   (ae (q01 6 sc.nd (qN yai (hr.mono (by decide)) aJ (am 0) (ac (am 5) ad)))
   (ag (bg PassesOwn.never rfl (bi (BX yaz (hr.mono (by decide)) aJ (am 6) (ac (am 2) ad))) (q02 7 sc.nd)
   (ae (q01 8 sc.nd (q00 yaR hr (ac (am 6) (ac (am 7) (ac (am 3) ad)))))
   (ag (bJ (aL w_ (am 8) kL (aQ _))
   (ag (bo (q03 (am 4) (ac (bN (ac (am 8) (ac (am 5) (ac (am 7) ad)))) ad))))
   aV)))))))
   (ag (aK (am 4))))),?_⟩
  walk_at "n";refine⟨Kk _,λl hl=>h1 _ _ ?_⟩;clear h1;generalize z0:aD H l _=H1;obtain⟨s1,e1⟩:=dU hl z0;walk_at "n";refine⟨⟨_,aN.of (s1 _ _ b1)⟩,?_⟩;refine bQ (xs:=wV ns) (λi σ Y=>aB H Y/\i<=ns.length/\(∃bs:List Addr,Y l=some (.lst (bs.map V.ref))/\aS (iJ l) Y bs ((ns.take i).flatMap (cS T L p))/\bs.length<=6*i)/\∃x1 x2 x3 x4,σ=[some (V.ref g),some (V.ref ln),some (V.ref cu),some (V.ref d),some (V.ref l),x1,x2,x3,x4]) ⟨s1,Kk _,⟨[],e1,aS.nil,Kk _⟩,_,_,_,_,rfl⟩ (λi σ Y _ h=>aN.of (h.1 _ _ b1)) ?_ ?_
  ·rintro i x σ Y hx ⟨sm,_,⟨bs,U,hA,c6⟩,x1,x2,x3,x4,rfl⟩
   rw[wV,J1]at hx;obtain⟨n,hn,rfl⟩:=Kn.mp hx;have hi:=(JX.mp hn).1;have a8:=c2 n (J2 hn);obtain⟨k,D⟩:∃k,L[n]?=some k:=⟨_,JW a8⟩;have C:=hg k (J2 D);have b6:=hG.up sm;obtain⟨lk,pn,t0,ha,hkk,a5,hN,hmm⟩:=id b6;obtain⟨b,S⟩:∃b,as[n]?=some b:=⟨_,JW (by rw[a5.1];exact a8)⟩;have c1:=a5.2 n b k S D;rw[zi _ hn,show cS T L p n=wF T p n k by unfold cS;rw[D]];walk_at "n";refine⟨dx,_,ha,rfl,g,dx,sg,st,as,L,n,b,rfl,b6,S,h1 _ _ ?_⟩;clear h1;walk_at "wp";refine Al C.k4 c1 (hC.up sm) hp C.good.t0 C.good.t7 λlw H2 b0 hW s2=>?_;obtain⟨ws,a2,b4⟩:=hW;have hwl:=lF C.k4 hp;refine⟨lw,rfl,⟨_,aN.of a2⟩,?_⟩;have a0:=sm.trans s2;have hT2:=hT.up a0;have a7:gm R H k.1 b k.2:=let ⟨_,_,_,_,_,hrs0,_,_⟩:=hG;hrs0.2 n b k S D
   have c9:=s2 _ _ U;have a9:lw≠l:=λe=>by rw[e,U]at b0;cases b0
   have h0:aS (iJ l) H2 bs ((ns.take i).flatMap (cS T L p)++((bL k p).take 0).filterMap λw=>(bS T k.2.c w).map λc=>(c,n,w)):=by
    show aS (iJ l) H2 bs ((ns.take i).flatMap (cS T L p)++[]);rw[Kv];exact hA.mono λb y _ _ h=>h.up s2
   refine bQ (xs:=ws.map V.ref) (λj σ J=>aB H J/\J lw=some (.lst (ws.map V.ref))/\aS iA J ws (bL k p)/\(∀a∈ws,a≠l)/\j<=ws.length/\(∃bs:List Addr,J l=some (.lst (bs.map V.ref))/\aS (iJ l) J bs ((ns.take i).flatMap (cS T L p)++((bL k p).take j).filterMap λw=>(bS T k.2.c w).map λc=>(c,n,w))/\bs.length<=6*i+j)/\∃x1 x2,σ=[some (V.ref g),some (V.ref ln),some (V.ref cu),some (V.ref d),some (V.ref l),some (V.int (n:Int)),some (V.ref b),x1,x2])
    ⟨a0,a2,b4.mono λ_ _ _ _ h=>h.2,λa ha=>?_,Kk _,⟨bs,c9,h0,⋯⟩,_,_,rfl⟩ (λj σ J _ h=>aN.of h.2.1) ?_ ?_
   ·obtain⟨j,hj⟩:=List.mem_iff_getElem?.mp ha
    obtain⟨y,_,hy⟩:=b4.get hj;exact λe=>by have:=hy.1;rw[e,U]at this;cases this
   ·rintro j x σ J hx ⟨o,O,m,v,_,⟨I,z,B,b2⟩,y1,y2,rfl⟩
    rw[J1]at hx;obtain⟨wa,M,rfl⟩:=Kn.mp hx;obtain⟨u,a4,a1⟩:=m.get M;have hj:=(JX.mp M).1;have ybc:=m.1;have a6:=a7.up o;walk_at "n";refine⟨b,wa,d,k.1,k.2,u,T,rfl,a6,a1,hT.up o,h1 _ _ ?_⟩;clear h1;rw[q0E,a4,List.filterMap_append,<- Kw];walk_at "wp";cases b3:bS T k.2.c u with
    |none=>
     rw[q06 (λh=>h rfl)];refine⟨o,O,m,v,hj,I,z,?_,⋯⟩;rw[show(some u).toList.filterMap (λw=>(bS T k.2.c w).map λc=>(c,n,w))=[] by simp[b3],Kv];exact B
    |some cst=>
     rw[q07 (λh=>nomatch h)];refine⟨.inl ⟨rfl,_,aN.of z⟩,au (by decide),λtp c0=>?_⟩;generalize z0:aD J tp _=H4;obtain⟨Z,(e4:H4 tp=some (.tup [.int cst,.int (n:Int),.ref wa]))⟩:=dU c0 z0;have G:=Z _ _ z;have a3:=v wa (J2 M);refine⟨_,G,by rw[JZ];exact aX ⋯,bK (o.trans Z) hl,by rw[ar a9];exact Z _ _ O,m.mono λb y U _ h=>mS (ig h Z) G (v b U),v,hj,I++[tp],by rw[af,J_];rfl,?_,by rw[Ki];simp;omega⟩;rw[show(some u).toList.filterMap (λw=>(bS T k.2.c w).map λc=>(c,n,w))=[(cst,n,u)] by simp[b3]];exact(B.mono λb y _ _ h=>(h.up Z).put G).snoc (iJ.put ⟨wa,a3,e4,ig a1 Z⟩ G)
   ·rintro σ J ⟨o,O,m,v,_,⟨I,z,B,b2⟩,y1,y2,rfl⟩
    rw[JZ,m.1,Kz]at B;rw[JZ]at b2;exact⟨o,hi,⟨I,z,B,by have:=m.1;omega⟩,_,_,_,_,rfl⟩
  ·rintro σ Y ⟨sm,_,⟨bs,U,hA,c6⟩,x1,x2,x3,x4,rfl⟩
   refine h1 _ _ ?_;walk_at "wp";rw[wV,JZ,Kz]at hA;exact q l Y hl ⟨bs,U,hA.mono λb y _ _ h=>let ⟨lw,_,h1,h2⟩:=h;⟨lw,h1,h2⟩⟩ sm
def Fv:HO->Prop
 | .dT _=>True
 |_=>False
def Kp(H H':Hp):Prop:=∀x o,¬ Fv o->H x=some o->H' x=some o
theorem Kp.lst{H H':Hp}(s:Kp H H'){a:Addr}{xs:List V}(h:H a=some (.lst xs)):H' a=some (.lst xs):=s _ _ id h
theorem Kp.tup{H H':Hp}(s:Kp H H'){a:Addr}{xs:List V}(h:H a=some (.tup xs)):H' a=some (.tup xs):=s _ _ id h
theorem Kp.ins{H H':Hp}(s:Kp H H'){a C dx:Addr}{fs:List (Str×V)}(h:H a=some (.ins C dx fs)):H' a=some (.ins C dx fs):=s _ _ id h
theorem Kp.dK{H H':Hp}(s:Kp H H'){a:Addr}{fs:List (cM×V)}(h:H a=some (.dK fs)):H' a=some (.dK fs):=s _ _ id h
theorem bI.kp{R:RC}{H H':Hp}{as:K3}{rs:Yaa}(h:bI R H as rs)(s:Kp H H'):bI R H' as rs:=by
 refine⟨h.1,λi a r c b=>?_⟩;obtain⟨d,l,h1,h2⟩:=h.2 i a r c b;exact⟨d,l,s.ins h1,s.lst h2⟩
theorem dF.kp{R:RC}{H H':Hp}{C dx a:Addr}{sg st:K0}{as:K3}{rs:Yaa}(g:dF R H C dx a sg st as rs)(s:Kp H H'):dF R H' C dx a sg st as rs:=by
 obtain⟨d,c,t,h1,h2,j,b,i⟩:=g;exact⟨d,c,t,s.ins h1,s.lst h2,j.kp s,⟨s.dK b.dict,λx e=>s.lst (b.list x e),b.apart⟩,i⟩
theorem bh.kp{d:Addr}{H H':Hp}{m:List (List cM×V)}(s:bh d H H')(hd:H d=some (.dT m)):Kp H H':=λx o h e=>s x o (λz=>by rw[z,hd]at e;cases e;exact h trivial) e
theorem Ag{β:Type}{A:Hp->Addr->β->Prop}{H H':Hp}(u:∀{b:Addr} {y:β},A H b y->A H' b y)(s:Kp H H'){l:Addr}{ys:List β}(h:jE A H l ys):jE A H' l ys:=by
 obtain⟨bs,h1,h2⟩:=h;exact⟨bs,s.lst h1,h2.mono λb y _ _ q=>u q⟩
theorem bu.kp{H H':Hp}{a:Addr}{k:Ky}(h:bu H a k)(s:Kp H H'):bu H' a k:=s.tup h
theorem eJ.kp{CC:Addr}{H H':Hp}{c:Addr}{p:aO}(h:eJ CC H c p)(s:Kp H H'):eJ CC H' c p:=by
 obtain⟨i,a,b,d,h1,h2,g,e⟩:=h;exact⟨i,a,b,d,s.ins h1,s.lst h2,Ag (A:=bu) (λq=>q.kp s) s g,Ag (A:=bu) (λq=>q.kp s) s e⟩
theorem rY.kp{H H':Hp}{b:Addr}{y:Int×Nat×List Ky}(h:rY H b y)(s:Kp H H'):rY H' b y:=let ⟨lw,h1,h2⟩:=h;⟨lw,s.tup h1,Ag (A:=bu) (λq=>q.kp s) s h2⟩
abbrev Tb:=List (Ky×Int)
def eO(e:Ky×Int):List cM×V:=(fD e.1,.int e.2)
def aM(tb:Tb)(k:Ky):Option Int:=(tb.find? λe=>decide (e.1=k)).map (·.2)
def pj(tb:Tb)(k:Ky)(v:Int):Tb:=if(aM tb k).isSome=true then tb.map (λe=>if e.1=k then(e.1,v) else e) else tb++[(k,v)]
theorem dE(e:Ky×Int)(tb:Tb)(k:Ky):aM (e::tb) k=if e.1=k then some e.2 else aM tb k:=by
 unfold aM;rw[List.find?_cons]
 by_cases h:e.1=k
 ·simp[h]
 ·simp[h]
theorem kx(tb:Tb)(k:Ky):dM (tb.map eO) (fD k)=(aM tb k).map V.int:=by
 induction tb with
 |nil=>rfl
 |cons e tb ih=>
  rw[Kq,dE]
  by_cases h:e.1=k
  ·rw[gJ (show(eO e).1=fD k from q0R fD h),q07 h];rfl
  ·rw[gG (λq=>h (kt q)),q06 h];exact ih
theorem AD(tb:Tb)(k:Ky)(v:Int):dw (tb.map eO) (fD k) (.int v)=(pj tb k v).map eO:=by
 unfold dw pj;rw[gy,kx,Option.isSome_map]
 split
 ·rw[Ka,Ka]
  refine q0K λe _=>?_;show(if fD e.1=fD k then(fD e.1,V.int v) else eO e)=eO (if e.1=k then(e.1,v) else e)
  by_cases h:e.1=k
  ·rw[q07 (q0R fD h),q07 h];rfl
  ·rw[q06 λq=>h (kt q),q06 h]
 ·rw[J_];rfl
theorem vi(k:Ky)(v:Int)(k':Ky):∀tb:Tb,aM (tb.map λe=>if e.1=k then(e.1,v) else e) k'=if k'=k then(aM tb k).map λ_=>v else aM tb k'
 | []=>by simp[aM]
 |e::tb=>by
  rw[Kq,dE,dE,dE,vi k v k' tb]
  by_cases h:e.1=k
  ·by_cases h':k'=k
   ·simp[h,h']
   ·have:¬ k=k':=λq=>h' q.symm
    simp[h,h',this]
  ·by_cases h':k'=k
   ·subst h';simp[h]
   ·simp[h,h']
theorem qI(k:Ky)(v:Int)(k':Ky):∀tb:Tb,aM (tb++[(k,v)]) k'=match aM tb k' with
  |some u=>some u
  |none=>if k=k' then some v else none
 | []=>by simp[aM]
 |e::tb=>by
  rw[List.cons_append,dE,dE,qI k v k' tb]
  by_cases h:e.1=k'
  ·simp[h]
  ·simp[h]
theorem zf(tb:Tb)(k:Ky)(v:Int)(k':Ky):aM (pj tb k v) k'=if k'=k then some v else aM tb k':=by
 unfold pj
 split
 ·rename_i h
  rw[vi];obtain⟨u,hu⟩:=Option.isSome_iff_exists.mp h;rw[hu];rfl
 ·rename_i h
  rw[qI]
  by_cases e:k'=k
  ·subst e
   have:aM tb k'=none:=by simpa using h
   rw[this,q07 rfl]
  ·rw[q06 e,q06 λq=>e q.symm]
   cases aM tb k'<;>rfl
theorem AN{tb:Tb}{k:Ky}(h:aM tb k=none):k∉tb.map (·.1):=by
 intro a;obtain⟨e,b,rfl⟩:=KI.mp a;unfold aM at h;rw[Option.map_eq_none_iff,List.find?_eq_none]at h;exact h e b (by simp)
theorem ue{tb:Tb}(nd:(tb.map (·.1)).Nodup){k:Ky}{v:Int}(h:(k,v)∈tb):aM tb k=some v:=by
 induction tb with
 |nil=>exact nomatch h
 |cons e tb ih=>
  rw[Kq,q0d]at nd;rw[dE];rcases Kb.mp h with rfl | h
  ·rw[q07 rfl]
  ·rw[q06 λq=>nd.1 (by rw[q];exact KI.mpr ⟨_,h,rfl⟩)]
   exact ih nd.2 h
theorem qv(tb:Tb)(k:Ky)(v:Int):(pj tb k v).map (·.1)=if(aM tb k).isSome=true then tb.map (·.1) else tb.map (·.1)++[k]:=by
 unfold pj
 split
 ·rw[Ka]
  refine q0K λe _=>?_;show(if e.1=k then(e.1,v) else e).1=e.1
  split<;>rfl
 ·rw[J_];rfl
theorem De{tb:Tb}{k:Ky}{v:Int}(nd:(tb.map (·.1)).Nodup):((pj tb k v).map (·.1)).Nodup:=by
 rw[qv]
 split
 ·exact nd
 ·rename_i h
  rw[List.nodup_append];refine⟨nd,by simp,λa ha b hb e=>?_⟩;rw[J0.mp hb]at e;exact AN (by simpa using h) (e▸ha)
theorem Av(tb:Tb)(k:Ky)(v:Int):(pj tb k v).length=if(aM tb k).isSome=true then tb.length else tb.length+1:=by
 have:=q0R List.length (qv tb k v);rw[JZ]at this;rw[this]
 split
 ·rw[JZ]
 ·rw[Ki,JZ];rfl
def cy(H:Hp)(d:Addr)(tb:Tb):Prop:=H d=some (.dT (tb.map eO))
theorem cy.told{H:Hp}{d:Addr}{tb:Tb}(h:cy H d tb):iV H d (aM tb):=⟨_,h,λk=>kx tb k⟩
theorem cy.up{H H':Hp}{d:Addr}{tb:Tb}(h:cy H d tb)(s:aB H H'):cy H' d tb:=s _ _ h
def gY(tb:Tb)(k:Ky)(v:Int):Bool:=match aM tb k with
 |some u=>decide (v<u)
 |none=>true
def dH(tb:Tb)(k:Ky)(v:Int):Tb:=if gY tb k v=true then pj tb k v else tb
def vh(tb tb':Tb):Prop:=∀k u,aM tb k=some u->∃u',u'<=u/\aM tb' k=some u'
theorem vh.refl(tb:Tb):vh tb tb:=λk u h=>⟨u,Int.le_refl _,h⟩
theorem vh.trans{a b c:Tb}(h1:vh a b)(h2:vh b c):vh a c:=λk u h=>by
 obtain⟨u1,l1,e1⟩:=h1 k u h;obtain⟨u2,l2,e2⟩:=h2 k u1 e1;exact⟨u2,Int.le_trans l2 l1,e2⟩
theorem ja(tb:Tb)(k:Ky)(v:Int)(k':Ky):aM (dH tb k v) k'=if k'=k/\gY tb k v=true then some v else aM tb k':=by
 unfold dH
 by_cases h:gY tb k v=true
 ·rw[q07 h,zf]
  by_cases e:k'=k
  ·rw[q07 e,q07 ⟨e,h⟩]
  ·rw[q06 e,q06 λq=>e q.1]
 ·rw[q06 h,q06 λq=>h q.2]
theorem qU{tb:Tb}{k:Ky}{v:Int}{k':Ky}(h:k'≠k):aM (dH tb k v) k'=aM tb k':=by rw[ja,q06 λq=>h q.1]
theorem xO(tb:Tb)(k:Ky)(v:Int):∃v',v'<=v/\aM (dH tb k v) k=some v':=by
 rw[ja];cases h:gY tb k v with
 |true=>exact⟨v,Int.le_refl _,by simp⟩
 |false=>
  unfold gY at h;cases a:aM tb k with
  |none=>rw[a]at h;cases h
  |some u=>
   rw[a]at h;have:¬ v<u:=by simpa using h
   exact⟨u,⋯,by simp⟩
theorem wd(tb:Tb)(k:Ky)(v:Int):vh tb (dH tb k v):=by
 intro b u a;rw[ja]
 by_cases e:b=k/\gY tb k v=true
 ·rw[q07 e]
  obtain⟨rfl,h⟩:=e;unfold gY at h;rw[a]at h;have:v<u:=by simpa using h
  exact⟨v,⋯,rfl⟩
 ·rw[q06 e];exact⟨u,Int.le_refl _,a⟩
theorem sG{tb:Tb}{k:Ky}{v:Int}{k':Ky}{u:Int}(h:aM (dH tb k v) k'=some u):aM tb k'=some u\/k'=k/\u=v:=by
 rw[ja]at h
 split at h
 ·rename_i e
  exact .inr ⟨e.1,by injection h with h;exact h.symm⟩
 ·exact .inl h
theorem Ac{tb:Tb}{k:Ky}{v:Int}(nd:(tb.map (·.1)).Nodup):((dH tb k v).map (·.1)).Nodup:=by
 unfold dH
 split
 ·exact De nd
 ·exact nd
theorem xQ(tb:Tb)(k:Ky)(v:Int):(dH tb k v).length<=if(aM tb k).isSome=true then tb.length else tb.length+1:=by
 unfold dH
 split
 ·rw[Av];exact Kj _
 ·split<;>omega
def zB(p:aO):Prop:=p≠[]/\bU p
theorem zB.inj{p q:aO}(h:zB p)(h':zB q)(e:bC p=bC q):p=q:=SpM.glue_inj 47 h.1 h'.1 h.2 h'.2 e
inductive Dv(rs:Yaa):Ky->Int->Prop
 |leaf {r:Nat×RV} {p:aO}:r∈rs->zB p->[]∈bL r p->Dv rs (bC p,r.2.n) r.2.c
 |one {r:Nat×RV} {p:aO} {k:Ky} {a:Int}:r∈rs->zB p->[k]∈bL r p->Dv rs k a->Dv rs (bC p,r.2.n) (r.2.c+a)
 |two {r:Nat×RV} {p:aO} {k1 k2:Ky} {a b:Int}:r∈rs->zB p->[k1,k2]∈bL r p->Dv rs k1 a->Dv rs k2 b->Dv rs (bC p,r.2.n) (r.2.c+a+b)
theorem qK{r:Nat×RV}{p:aO}{w:List Ky}(h:w∈bL r p):w=[]\/(∃k,w=[k])\/∃k1 k2,w=[k1,k2]:=by
 unfold bL at h
 split at h
 ·split at h
  ·exact .inl (J0.mp h)
  ·exact nomatch h
 ·obtain⟨k,_,rfl⟩:=KI.mp h
  exact .inr (.inr ⟨_,_,rfl⟩)
 ·obtain⟨k,_,rfl⟩:=KI.mp h
  exact .inr (.inr ⟨_,_,rfl⟩)
 ·exact .inr (.inl ⟨_,J0.mp h⟩)
theorem oV{T:Ky->Option Int}{c v:Int}{k:Ky}(h:bS T c [k]=some v):∃a,T k=some a/\v=c+a:=by
 unfold bS at h;cases b:T k with
 |none=>rw[b]at h;cases h
 |some a=>rw[b]at h;injection h with h;exact⟨a,rfl,h.symm⟩
theorem um{T:Ky->Option Int}{c v:Int}{k1 k2:Ky}(h:bS T c [k1,k2]=some v):∃a b,T k1=some a/\T k2=some b/\v=c+a+b:=by
 unfold bS at h;cases d:T k1 with
 |none=>rw[d]at h;cases h
 |some a=>
  rw[d]at h;obtain⟨b,g,e⟩:=oV h;exact⟨a,b,rfl,g,e⟩
theorem CI{rs:Yaa}{T:Ky->Option Int}{r:Nat×RV}{p:aO}{w:List Ky}{v:Int}(hr:r∈rs)(hp:zB p)(hw:w∈bL r p)(hc:bS T r.2.c w=some v)(hT:∀k∈w,∀u,T k=some u->Dv rs k u):Dv rs (bC p,r.2.n) v:=by
 rcases qK hw with rfl | ⟨k,rfl⟩ | ⟨g,e,rfl⟩
 ·injection hc with hc;rw[<- hc];exact .leaf hr hp hw
 ·obtain⟨a,d,rfl⟩:=oV hc
  exact .one hr hp hw (hT k (by simp) a d)
 ·obtain⟨a,b,d,i,rfl⟩:=um hc
  exact .two hr hp hw (hT g (by simp) a d) (hT e (by simp) b i)
theorem i5{T T':Ky->Option Int}:∀{w:List Ky} {c:Int},(∀k∈w,T k=T' k)->bS T c w=bS T' c w
 | [],c,_=>rfl
 |k::w,c,h=>by
  show(match T k with | none=>none | some v=>bS T (c+v) w)=(match T' k with | none=>none | some v=>bS T' (c+v) w);rw[h k (q0B ..)];cases T' k with
  |none=>rfl
  |some v=>exact i5 λk hk=>h k (Kc _ hk)
def GW(rs:Yaa)(T:Ky->Option Int)(q:aO):Prop:=∀r∈rs,∀w∈bL r q,∀v,bS T r.2.c w=some v->∃v',v'<=v/\T (bC q,r.2.n)=some v'
theorem qr{r:Nat×RV}{q:aO}{a c:Nat}(hq:rect q a c)(a0:0<a)(c0:0<c){w:List Ky}(hw:w∈bL r q){k:Ky}(hk:k∈w) :
  (∃t l b x,t<b/\b<=a/\l<x/\x<=c/\k.1=bC (cut q t l b x)/\bG (cut q t l b x)<bG q/\r.1<3)\/(3<=r.1/\w=[(bC (turned q (cY r.2.t.toNat)),r.2.o1)]):=by
 have cell:∀{t l b x:Nat},t<b->b<=a->l<x->x<=c->(b-t<a/\x-l=c\/b-t=a/\x-l<c)->bG (cut q t l b x)<bG q:=by
  intro t l b x h1 h2 h3 h4 h5;have hc:=cB hq h1 h2 h3 h4;unfold bG;rw[hc.1,bc hc ⋯,hq.1,bc hq a0];rcases h5 with⟨h,e⟩ | ⟨e,h⟩
  ·rw[e];exact Nat.mul_lt_mul_of_pos_right h c0
  ·rw[e];exact Nat.mul_lt_mul_of_pos_left h a0
 unfold bL at hw
 split at hw
 ·split at hw
  ·rw[J0.mp hw]at hk;exact nomatch hk
  ·exact nomatch hw
 ·rename_i hr
  obtain⟨k0,h0,rfl⟩:=KI.mp hw;unfold bP at h0;obtain⟨j,hj,rfl⟩:=KI.mp h0;have hj:=List.mem_range.mp hj;rw[bc hq a0]at hj
  left
  rcases Kb.mp hk with rfl | hk
  ·exact⟨0,0,a,j+1,a0,Kj _,⋯,⋯,q0R bC (qg hq),cell a0 (Kj _) ⋯ ⋯ (.inr ⟨⋯,⋯⟩),⋯⟩
  ·rw[J0.mp hk]
   exact⟨0,j+1,a,c,a0,Kj _,⋯,Kj _,q0R bC (pX hq),cell a0 (Kj _) ⋯ (Kj _) (.inr ⟨⋯,⋯⟩),⋯⟩
 ·rename_i hr
  obtain⟨k0,h0,rfl⟩:=KI.mp hw;unfold bP at h0;obtain⟨j,hj,rfl⟩:=KI.mp h0;have hj:=List.mem_range.mp hj;rw[hq.1]at hj
  left
  rcases Kb.mp hk with rfl | hk
  ·exact⟨0,0,j+1,c,⋯,⋯,c0,Kj _,q0R bC (qt hq),cell ⋯ ⋯ c0 (Kj _) (.inl ⟨⋯,⋯⟩),⋯⟩
  ·rw[J0.mp hk]
   exact⟨j+1,0,a,c,⋯,Kj _,c0,Kj _,q0R bC (pT hq),cell ⋯ (Kj _) c0 (Kj _) (.inl ⟨⋯,⋯⟩),⋯⟩
 ·rename_i x h0 h1 h2
  right
  refine⟨?_,J0.mp hw⟩;rcases hh:r.1 with _ | _ | _ | n
  ·exact q0Q hh h0
  ·exact q0Q hh h1
  ·exact q0Q hh h2
  ·omega
theorem eC{p q:aO}{r c:Nat}(hp:rect p r c)(hn:bU p)(h:bM p r c q):zB q:=by
 obtain⟨r',c',h1,h2,_⟩:=h.rect hp;exact⟨λe=>by rw[e]at h1;have:=h1.1;simp at this;omega,h.ns hp hn⟩
theorem iN{p q:aO}{r c:Nat}(hp:rect p r c)(h:bM p r c q){x:Nat×RV}(t0:0<=x.2.t)(t7:x.2.t<=7){w:List Ky}(hw:w∈bL x q){k:Ky}(hk:k∈w):∃q',bM p r c q'/\k.1=bC q'/\(bG q'<bG q\/3<=x.1/\q'=turned q (cY x.2.t.toNat)):=by
 obtain⟨a,b,h1,h2,n,_⟩:=h.rect hp;rcases qr h1 h2 n hw hk with⟨t,l,b,y,d,m,j,i,g,e,_⟩ | ⟨d,rfl⟩
 ·exact⟨_,h.cut hp h1 d m j i,g,.inl e⟩
 ·rw[J0.mp hk]
  exact⟨_,h.turned hp (jb ⋯),rfl,.inr ⟨d,rfl⟩⟩
theorem AE{rs:Yaa}{T:Ky->Option Int}{p:aO}{r c:Nat}(hp:rect p r c)(hn:bU p)(hg:∀x∈rs,0<=x.2.t/\x.2.t<=7)(hC:∀q,bM p r c q->GW rs T q){k:Ky}{v:Int}(h:Dv rs k v):∀q,bM p r c q->k.1=bC q->∃v',v'<=v/\T k=some v':=by
 induction h with
 | @leaf x q0 hr ho hw=>
  intro q d e;have e:=ho.inj (eC hp hn d) e;subst e;exact hC _ d x hr _ hw _ rfl
 | @one x q0 k a hr ho hw _ ih=>
  intro q d e;have e:=ho.inj (eC hp hn d) e;subst e;obtain⟨g,h1,j,_⟩:=iN hp d (hg x hr).1 (hg x hr).2 hw (k:=k) (by simp);obtain⟨m,o,i⟩:=ih g h1 j;obtain⟨v',u,l⟩:=hC _ d x hr _ hw (x.2.c+m) (by unfold bS;rw[i];rfl);exact⟨v',⋯,l⟩
 | @two x q0 k1 k2 a b hr ho hw _ _ ih1 ih2=>
  intro q d e;have e:=ho.inj (eC hp hn d) e;subst e;obtain⟨g,h1,j,_⟩:=iN hp d (hg x hr).1 (hg x hr).2 hw (k:=k1) (by simp);obtain⟨n,h2,y,_⟩:=iN hp d (hg x hr).1 (hg x hr).2 hw (k:=k2) (by simp);obtain⟨m,o,i⟩:=ih1 g h1 j;obtain⟨z,lb,w⟩:=ih2 n h2 y;obtain⟨v',u,l⟩:=hC _ d x hr _ hw (x.2.c+m+z) (by unfold bS;rw[i];show bS T _ [k2]=_;unfold bS;rw[w];rfl);exact⟨v',⋯,l⟩
def CK(q:aO)(ns:List (List Nat)):List Ky:=(List.range 8).flatMap λt=>ns.map λn=>(bC (turned q t),n)
theorem jI{q:aO}{ns:List (List Nat)}{k:Ky}:k∈CK q ns↔∃t,t<8/\∃n,n∈ns/\k=(bC (turned q t),n):=by
 unfold CK;simp only[List.mem_flatMap,List.mem_range,KI]
 constructor
 ·rintro⟨t,a,n,b,rfl⟩;exact⟨t,a,n,b,rfl⟩
 ·rintro⟨t,a,n,b,rfl⟩;exact⟨t,a,n,b,rfl⟩
theorem rU(q:aO)(ns:List (List Nat)):(CK q ns).length=8*ns.length:=by
 unfold CK;rw[List.length_flatMap];simp only[JZ];show ns.length+(ns.length+(ns.length+(ns.length+(ns.length+(ns.length+(ns.length+(ns.length+0)))))))=_;omega
def gB(q:aO)(r:Nat×RV)(t:Nat):Ky:=(bC (turned q (after t r.2.t.toNat)),r.2.n)
def BK(trs:Yaa)(q:aO)(tb:Tb)(k:Ky)(v:Int):Prop:=∀r∈trs,r.2.o1=k.2->∀t,t<8->k.1=bC (turned q t)->∃v',v'<=v+r.2.c/\aM tb (gB q r t)=some v'
theorem BK.le{trs:Yaa}{q:aO}{tb tb':Tb}{k:Ky}{v:Int}(h:BK trs q tb k v)(l:vh tb tb'):BK trs q tb' k v:=λr hr e t ht e'=>by
 obtain⟨v1,l1,e1⟩:=h r hr e t ht e';obtain⟨v2,l2,e2⟩:=l _ _ e1;exact⟨v2,Int.le_trans l2 l1,e2⟩
theorem sR{α:Type}{f g:α->Nat}:∀{ks:List α},(∀x∈ks,f x<=g x)->(ks.map f).sum<=(ks.map g).sum
 | [],_=>Kj _
 |k::ks,h=>by
  have h1:=h k (q0B ..);have h2:=sR (ks:=ks) λx hx=>h x (Kc _ hx);rw[Kq,Kq,List.sum_cons,List.sum_cons];omega
theorem sT{α:Type}{f g:α->Nat}:∀{ks:List α} {x:α},(∀x∈ks,f x<=g x)->x∈ks->f x<g x->(ks.map f).sum+1<=(ks.map g).sum
 | [],_,_,h,_=>nomatch h
 |k::ks,x,h,hx,hl=>by
  have h1:=h k (q0B ..);have hr:∀x∈ks,f x<=g x:=λx hx=>h x (Kc _ hx);rw[Kq,Kq,List.sum_cons,List.sum_cons];rcases Kb.mp hx with rfl | hx
  ·have h2:=sR hr;omega
  ·have h2:=sT hr hx hl;omega
theorem og{α:Type}{f:α->Nat}{b:Nat}:∀{ks:List α},(∀x∈ks,f x<=b)->(ks.map f).sum<=b*ks.length
 | [],_=>Kk _
 |k::ks,h=>by
  have h1:=h k (q0B ..);have h2:=og (ks:=ks) λx hx=>h x (Kc _ hx);rw[Kq,List.sum_cons,J9,Nat.mul_succ];omega
def vp(tb:Tb)(k:Ky):Nat:=match aM tb k with
 |some _=>1
 |none=>0
def Cy(B:Nat)(tb:Tb)(k:Ky):Nat:=match aM tb k with
 |some v=>v.toNat
 |none=>B+1
def nj(ks:List Ky)(tb:Tb):Nat:=(ks.map (vp tb)).sum
def Eg(ks:List Ky)(B:Nat)(tb:Tb):Nat:=(ks.map (Cy B tb)).sum
theorem h_(ks:List Ky)(tb:Tb):nj ks tb<=ks.length:=by
 have:=og (f:=vp tb) (b:=1) (ks:=ks) λx _=>by unfold vp;split<;>omega
 unfold nj;omega
theorem xc{tb tb':Tb}(l:vh tb tb')(k:Ky):vp tb k<=vp tb' k:=by
 unfold vp;cases h:aM tb k with
 |none=>exact Kk _
 |some v=>
  obtain⟨v',_,e⟩:=l k v h;rw[e];exact Kj _
theorem DW{tb tb':Tb}(l:vh tb tb')(ks:List Ky):nj ks tb<=nj ks tb':=sR λx _=>xc l x
theorem B7{tb tb':Tb}(l:vh tb tb'){ks:List Ky}{k:Ky}{v:Int}(hk:k∈ks)(h:aM tb k=none)(h':aM tb' k=some v):nj ks tb+1<=nj ks tb':=sT (λx _=>xc l x) hk (by unfold vp;rw[h,h'];exact Nat.zero_lt_one)
structure TI(trs rs:Yaa)(q:aO)(ns:List (List Nat))(M L0:Nat)(tb0 tb:Tb)(op:Ky->Prop):Prop where
 nd:(tb.map (·.1)).Nodup
 le:vh tb0 tb
 out:∀k,k∉CK q ns->aM tb k=aM tb0 k
 snd:∀k∈CK q ns,∀v,aM tb k=some v->Dv rs k v
 sett:∀k∈CK q ns,∀v,aM tb k=some v->¬ op k->BK trs q tb k v
 opk:∀k,op k->k∈CK q ns/\∃v,aM tb k=some v
 pos:∀k∈CK q ns,∀v,aM tb k=some v->1<=v/\v<=((M+9*nj (CK q ns) tb:Nat):Int)
 len:tb.length<=L0+nj (CK q ns) tb
theorem TI.op{trs rs:Yaa}{q:aO}{ns:List (List Nat)}{M L0:Nat}{tb0 tb:Tb}{op op':Ky->Prop}(h:TI trs rs q ns M L0 tb0 tb op)(h1:∀k,op' k->op k)(h2:∀k v,op k->¬ op' k->aM tb k=some v->BK trs q tb k v):TI trs rs q ns M L0 tb0 tb op':=
 ⟨h.nd,h.le,h.out,h.snd,λk hk v e no=>by
  by_cases ho:op k
  ·exact h2 k v ho no e
  ·exact h.sett k hk v e ho,λk ho=>h.opk k (h1 k ho),h.pos,h.len⟩
theorem lG{r:Nat×RV}(h:3<=r.1)(p:aO):bL r p=[[(bC (turned p (cY r.2.t.toNat)),r.2.o1)]]:=by
 unfold bL
 split
 ·omega
 ·omega
 ·omega
 ·rfl
structure G3(rs:Yaa)(ns:List (List Nat))(r:Nat×RV):Prop where
 mem:r∈rs
 k3:3<=r.1
 c1:1<=r.2.c
 c9:r.2.c<=9
 t0:0<=r.2.t
 t7:r.2.t<=7
 nm:r.2.n∈ns
theorem TI.low{trs rs:Yaa}{q:aO}{ns:List (List Nat)}{M L0 a c:Nat}{tb0 tb:Tb}{op:Ky->Prop}(h:TI trs rs q ns M L0 tb0 tb op)(hq:rect q a c)(a0:0<a)(c0:0<c)(hO:∀t,t<8->zB (turned q t))(h8:ns.length<=8){r:Nat×RV}(hr:G3 rs ns r){t:Nat}(ht:t<8){v:Int}(hk:(bC (turned q t),r.2.o1)∈CK q ns)(hv:aM tb (bC (turned q t),r.2.o1)=some v) :
  TI trs rs q ns M L0 tb0 (dH tb (gB q r t) (v+r.2.c)) (λx=>op x\/(gY tb (gB q r t) (v+r.2.c)=true/\x=gB q r t))/\Eg (CK q ns) (M+576) (dH tb (gB q r t) (v+r.2.c))+(if gY tb (gB q r t) (v+r.2.c)=true then 1 else 0)<=Eg (CK q ns) (M+576) tb:=by
 have B:r.2.t.toNat<8:=by have:=hr.t0;have:=hr.t7;omega
 have G:=gL ht B;have g:gB q r t∈CK q ns:=jI.mpr ⟨_,G,_,hr.nm,rfl⟩;have m:Dv rs (gB q r t) (v+r.2.c):=by
  rw[Int.add_comm];refine Dv.one hr.mem (hO _ G) (k:=(bC (turned q t),r.2.o1)) ?_ (h.snd _ hk v hv);rw[lG hr.k3];have C:=cF hq a0 c0 t;rw[<- bX hq a0 c0 ht B,l_ C (by split<;>assumption) (by split<;>assumption) B];exact J0.mpr rfl
 have hc1:=hr.c1;have hc9:=hr.c9;obtain⟨p1,p2⟩:=h.pos _ hk v hv;generalize gB q r t=k' at g m ⊢;generalize hv':v+r.2.c=v' at m ⊢;cases o:gY tb k' v' with
 |false=>
  have e:dH tb k' v'=tb:=by unfold dH;rw[o];rfl
  rw[e];exact⟨h.op (λk hk=>hk.elim id λx=>q0Q x.1 (by simp)) λk v l p _=>q0Q (.inl l) p,by simp⟩
 |true=>
  have d:=wd tb k' v';have hcl:=DW d (CK q ns);have b:aM (dH tb k' v') k'=some v':=by rw[ja,q07 ⟨rfl,o⟩]
  have D:=h_ (CK q ns) (dH tb k' v');rw[rU]at D;have j:∀w,aM tb k'=some w->v'<w:=λw i=>by
   unfold gY at o;rw[i]at o
   simpa using o
  have n:aM tb k'=none->nj (CK q ns) tb+1<=nj (CK q ns) (dH tb k' v'):=λJ=>B7 d g J b;have z:v'<=((M+9*nj (CK q ns) (dH tb k' v'):Nat):Int):=by
   cases i:aM tb k' with
   |none=>have:=n i;omega
   |some w=>
    have h1:=j w i;have h2:=(h.pos _ g w i).2;omega
  refine⟨⟨Ac h.nd,h.le.trans d,λk hk=>?_,λk hk w e=>?_,λk hk w e p=>?_,λk l=>?_,λk hk w e=>?_,?_⟩,?_⟩
  ·rw[qU λe=>hk (by rw[e];exact g)];exact h.out k hk
  ·rcases sG e with e | ⟨rfl,rfl⟩
   ·exact h.snd k hk w e
   ·exact m
  ·have I:k≠k':=λe=>p (.inr ⟨rfl,e⟩)
   rw[qU I]at e;exact(h.sett k hk w e λl=>p (.inl l)).le d
  ·rcases l with l | ⟨_,rfl⟩
   ·obtain⟨h1,w,h2⟩:=h.opk k l
    obtain⟨y,_,L⟩:=d k w h2;exact⟨h1,y,L⟩
   ·exact⟨g,v',b⟩
  ·rcases sG e with e | ⟨rfl,rfl⟩
   ·have:=h.pos k hk w e
    exact⟨this.1,⋯⟩
   ·exact⟨⋯,z⟩
  ·have h1:=xQ tb k' v'
   have h2:=h.len;cases i:aM tb k' with
   |none=>rw[i]at h1;have:=n i;simp at h1;omega
   |some w=>rw[i]at h1;simp at h1;omega
  ·rw[q07 rfl]
   refine sT (x:=k') (λx _=>?_) g ?_
   ·unfold Cy
    cases u:aM tb x with
    |none=>
     by_cases e:x=k'
     ·subst e;rw[b]
      show v'.toNat<=_;simp only;omega
     ·rw[qU e,u];exact Kj _
    |some w=>
     obtain⟨y,l1,O⟩:=d x w u;rw[O];show y.toNat<=w.toNat;omega
   ·unfold Cy
    rw[b];cases u:aM tb k' with
    |none=>show v'.toNat<_;simp only;omega
    |some w=>
     have:=j w u;show v'.toNat<w.toNat;omega
theorem TI.mu{trs rs:Yaa}{q:aO}{ns:List (List Nat)}{M L0:Nat}{tb0 tb:Tb}{op:Ky->Prop}(h:TI trs rs q ns M L0 tb0 tb op)(h8:ns.length<=8):Eg (CK q ns) (M+576) tb<=(M+577)*64:=by
 have h64:=h_ (CK q ns) tb;have hl:=rU q ns;have h1:Eg (CK q ns) (M+576) tb<=(M+577)*(CK q ns).length:=og λx a=>by
  unfold Cy;cases b:aM tb x with
  |none=>exact Kj _
  |some v=>
   have:=(h.pos x a v b).2;show v.toNat<=_;omega
 exact Ks h1 (Nat.mul_le_mul_left _ ⋯)
theorem TI.len64{trs rs:Yaa}{q:aO}{ns:List (List Nat)}{M L0:Nat}{tb0 tb:Tb}{op:Ky->Prop}(h:TI trs rs q ns M L0 tb0 tb op)(h8:ns.length<=8):tb.length<=L0+64:=by
 have h64:=h_ (CK q ns) tb;have hl:=rU q ns;have:=h.len;omega
def lh(rs:Yaa)(n:Nat):List Nat:=match rs[n]? with
 |some r=>r.2.n
 |none=>[]
def pO(rs:Yaa)(p:aO)(tb:Tb)(ys:List (Int×Nat×List Ky)):Tb:=ys.foldl (λtb y=>dH tb (bC p,lh rs y.2.1) y.1) tb
def Fl(rs:Yaa)(ns:K0)(p:aO)(tb:Tb):Tb:=pO rs p tb (ns.flatMap (cS (aM tb) rs p))
structure Gk(rs:Yaa)(p:aO)(tb tb':Tb)(ys:List (Int×Nat×List Ky)):Prop where
 le:vh tb tb'
 out:∀k:Ky,k.1≠bC p->aM tb' k=aM tb k
 all:∀y∈ys,∃v',v'<=y.1/\aM tb' (bC p,lh rs y.2.1)=some v'
 val:∀k v,aM tb' k=some v->aM tb k=some v\/∃y∈ys,k=(bC p,lh rs y.2.1)/\v=y.1
 len:tb'.length<=tb.length+ys.length
 nd:(tb.map (·.1)).Nodup->(tb'.map (·.1)).Nodup
theorem li(rs:Yaa)(p:aO):∀(ys:List (Int×Nat×List Ky)) (tb:Tb),Gk rs p tb (pO rs p tb ys) ys
 | [],tb=>⟨vh.refl _,λ_ _=>rfl,(λy hy=>nomatch hy),λk v h=>.inl h,Kj _,id⟩
 |y::ys,tb=>by
  have ih:=li rs p ys (dH tb (bC p,lh rs y.2.1) y.1);have e:pO rs p tb (y::ys)=pO rs p (dH tb (bC p,lh rs y.2.1) y.1) ys:=rfl;rw[e];refine⟨(wd _ _ _).trans ih.le,λk hk=>?_,λz hz=>?_,λk v h=>?_,?_,λnd=>ih.nd (Ac nd)⟩
  ·rw[ih.out k hk,qU λq=>hk (by rw[q])]
  ·rcases Kb.mp hz with rfl | hz
   ·obtain⟨v,l1,e1⟩:=xO tb (bC p,lh rs z.2.1) z.1
    obtain⟨v',l2,e2⟩:=ih.le _ _ e1;exact⟨v',Int.le_trans l2 l1,e2⟩
   ·exact ih.all z hz
  ·rcases ih.val k v h with h | ⟨z,hz,e1,e2⟩
   ·rcases sG h with h | ⟨e1,e2⟩
    ·exact .inl h
    ·exact .inr ⟨y,q0B ..,e1,e2⟩
   ·exact .inr ⟨z,Kc _ hz,e1,e2⟩
  ·have h1:=ih.len
   have h2:=xQ tb (bC p,lh rs y.2.1) y.1;rw[J9]
   split at h2<;>omega
theorem p7{T:Ky->Option Int}{rs:Yaa}{p:aO}{ns:K0}{y:Int×Nat×List Ky}(h:y∈ns.flatMap (cS T rs p)):y.2.1∈ns/\∃r,rs[y.2.1]?=some r/\y.2.2∈bL r p/\bS T r.2.c y.2.2=some y.1:=by
 obtain⟨n,d,a⟩:=List.mem_flatMap.mp h;unfold cS at a;cases hr:rs[n]? with
 |none=>rw[hr]at a;exact nomatch a
 |some r=>
  rw[hr]at a;unfold wF at a;obtain⟨w,b,e⟩:=List.mem_filterMap.mp a;obtain⟨c,g,rfl⟩:=Kn.mp e;exact⟨d,r,hr,b,g⟩
theorem ze{T:Ky->Option Int}{rs:Yaa}{p:aO}{ns:K0}{n:Nat}{r:Nat×RV}{w:List Ky}{v:Int}(hn:n∈ns)(hr:rs[n]?=some r)(hw:w∈bL r p)(hc:bS T r.2.c w=some v):(v,n,w)∈ns.flatMap (cS T rs p):=by
 refine List.mem_flatMap.mpr ⟨n,hn,?_⟩;unfold cS;rw[hr];exact List.mem_filterMap.mpr ⟨w,hw,by rw[hc];rfl⟩
theorem jG{T:Ky->Option Int}{rs:Yaa}{p:aO}{a c:Nat}(hp:iE p a c)(hg:∀r∈rs,r.1<4):∀ns:List Nat,(ns.flatMap (cS T rs p)).length<=6*ns.length
 | []=>Kj _
 |n::ns=>by
  have ih:=jG (T:=T) hp hg ns;rw[List.flatMap_cons,Ki,J9];have:(cS T rs p n).length<=6:=by
   unfold cS;cases hr:rs[n]? with
   |none=>exact Kk _
   |some r=>exact Ks (List.length_filterMap_le _ _) (lF (hg r (J2 hr)) hp)
  omega
def pta(rs:Yaa)(ns:K0)(q:aO)(tb:Tb):Nat->Tb
 |0=>tb
 |n+1=>Fl rs ns (turned q n) (pta rs ns q tb n)
def eN(rs:Yaa):List Nat:=rs.zipIdx.filterMap λx=>if x.1.1=3 then none else some x.2
theorem kj{rs:Yaa}{n:Nat}:n∈eN rs↔∃r,rs[n]?=some r/\r.1≠3:=by
 unfold eN;rw[List.mem_filterMap]
 constructor
 ·rintro⟨⟨r,i⟩,hm,e⟩
  have hi:=List.mem_zipIdx_iff_getElem?.mp hm
  split at e
  ·cases e
  ·rename_i h
   injection e with e
   subst e;exact⟨r,hi,h⟩
 ·rintro⟨r,hr,h⟩
  exact⟨(r,n),List.mem_zipIdx_iff_getElem?.mpr hr,by rw[q06 h]⟩
def ot(rs:Yaa):Yaa:=rs.filter λr=>decide (r.1=3)
structure CF(rs:Yaa)(ns:K0)(q:aO)(tb0 tb:Tb)(n:Nat):Prop where
 le:vh tb0 tb
 out:∀k:Ky,(∀t,t<8->k.1≠bC (turned q t))->aM tb k=aM tb0 k
 all:∀t,t<n->∀m∈ns,∀r,rs[m]?=some r->∀w∈bL r (turned q t),∀v,bS (aM tb0) r.2.c w=some v->∃v',v'<=v/\aM tb (bC (turned q t),r.2.n)=some v'
 val:∀k v,aM tb k=some v->aM tb0 k=some v\/∃t,t<8/\∃r∈rs,r.1≠3/\∃w∈bL r (turned q t),bS (aM tb0) r.2.c w=some v/\k=(bC (turned q t),r.2.n)
 len:tb.length<=tb0.length+6*ns.length*n
 nd:(tb0.map (·.1)).Nodup->(tb.map (·.1)).Nodup
theorem uc{rs:Yaa}{n:Nat}{r:Nat×RV}(h:rs[n]?=some r):lh rs n=r.2.n:=by unfold lh;rw[h]
theorem uH{rs:Yaa}{q:aO}{tb0:Tb}{a c:Nat}(hg:∀r∈rs,r.1<4)(h6:∀t,t<8->∃a c,iE (turned q t) a c)
  (hK:∀t,t<8->∀r∈rs,r.1≠3->∀w∈bL r (turned q t),∀k∈w,∀t',t'<8->k.1≠bC (turned q t')):∀n,n<=8->CF rs (eN rs) q tb0 (pta rs (eN rs) q tb0 n) n
 |0,_=>⟨vh.refl _,λ_ _=>rfl,λt ht=>q0Q ht (Nat.not_lt_zero _),λk v h=>.inl h,by simp[pta],id⟩
 |n+1,hn=>by
  have ih:=uH (tb0:=tb0) (a:=a) (c:=c) hg h6 hK n ⋯;have e:pta rs (eN rs) q tb0 (n+1)=Fl rs (eN rs) (turned q n) (pta rs (eN rs) q tb0 n):=rfl;rw[e];generalize pta rs (eN rs) q tb0 n=tb at ih ⊢;unfold Fl;have ps:=li rs (turned q n) ((eN rs).flatMap (cS (aM tb) rs (turned q n))) tb;obtain⟨a',c',h6'⟩:=h6 n ⋯;have hl:=jG (T:=aM tb) h6' hg (eN rs);have same:∀{r:Nat×RV},r∈rs->r.1≠3->∀{w:List Ky},w∈bL r (turned q n)->bS (aM tb) r.2.c w=bS (aM tb0) r.2.c w:=fun{r} hr h3 {w} hw=>i5 λk hk=>ih.out k λt' ht'=>hK n ⋯ r hr h3 w hw k hk t' ht';refine⟨ih.le.trans ps.le,λk hk=>?_,λt ht m hm r hr w hw v hv=>?_,λk v h=>?_,?_,λnd=>ps.nd (ih.nd nd)⟩
  ·rw[ps.out k (hk n ⋯)];exact ih.out k hk
  ·by_cases et:t=n
   ·subst et
    obtain⟨r',hr',h3⟩:=kj.mp hm;rw[hr]at hr';cases hr'
    obtain⟨v',l',e'⟩:=ps.all _ (ze (v:=v) hm hr hw (by rw[same (J2 hr) h3 hw];exact hv));rw[show lh rs m=r.2.n from uc hr]at e';exact⟨v',l',e'⟩
   ·obtain⟨v1,l1,e1⟩:=ih.all t ⋯ m hm r hr w hw v hv
    obtain⟨v2,l2,e2⟩:=ps.le _ _ e1;exact⟨v2,Int.le_trans l2 l1,e2⟩
  ·rcases ps.val k v h with h | ⟨y,hy,e1,e2⟩
   ·exact ih.val k v h
   ·obtain⟨h1,r,h2,h3,h4⟩:=p7 hy
    obtain⟨r',hr',h5⟩:=kj.mp h1;rw[h2]at hr';cases hr'
    have hm:=J2 h2;rw[uc h2]at e1;exact .inr ⟨n,⋯,r,hm,h5,_,h3,by rw[<- same hm h5 h3,h4,e2],e1⟩
  ·have h1:=ps.len
   have h2:=ih.len;rw[Nat.mul_add];omega
theorem ic{q:aO}{a c:Nat}(hq:rect q a c)(a0:0<a)(c0:0<c)(t:Nat):bG (turned q t)=bG q:=by
 have b:=cF hq a0 c0 t;unfold bG;rw[b.1,bc b (by split<;>assumption),hq.1,bc hq a0]
 split
 ·rfl
 ·rw[Nat.mul_comm]
theorem Dg{r:Nat×RV}{q:aO}{a c:Nat}(hq:rect q a c)(a0:0<a)(c0:0<c){k1 k2:Ky}(hw:[k1,k2]∈bL r q):∃q1 q2,(∃t l b x,t<b/\b<=a/\l<x/\x<=c/\q1=cut q t l b x)/\(∃t l b x,t<b/\b<=a/\l<x/\x<=c/\q2=cut q t l b x)/\k1.1=bC q1/\k2.1=bC q2/\bG q1+bG q2=bG q:=by
 have d:∀{t l b x:Nat},t<b->b<=a->l<x->x<=c->bG (cut q t l b x)=(b-t)*(x-l):=by
  intro t l b x h1 h2 o n;have k:=cB hq h1 h2 o n;unfold bG;rw[k.1,bc k ⋯]
 have all:bG q=a*c:=by unfold bG;rw[hq.1,bc hq a0]
 unfold bL at hw
 split at hw
 ·split at hw
  ·exact nomatch J0.mp hw
  ·exact nomatch hw
 ·obtain⟨m,i,e⟩:=KI.mp hw
  unfold bP at i;obtain⟨j,g,rfl⟩:=KI.mp i;have g:=List.mem_range.mp g;rw[bc hq a0]at g
  injection e with e1 e2
  injection e2 with e2 _
  subst e1;subst e2
  refine⟨_,_,⟨0,0,a,j+1,a0,Kj _,⋯,⋯,rfl⟩,⟨0,j+1,a,c,a0,Kj _,⋯,Kj _,rfl⟩,q0R bC (qg hq),q0R bC (pX hq),?_⟩;rw[d a0 (Kj _) ⋯ ⋯,d a0 (Kj _) ⋯ (Kj _),all,<- Nat.mul_add]
  congr 1;omega
 ·obtain⟨m,i,e⟩:=KI.mp hw
  unfold bP at i;obtain⟨j,g,rfl⟩:=KI.mp i;have g:=List.mem_range.mp g;rw[hq.1]at g
  injection e with e1 e2
  injection e2 with e2 _
  subst e1;subst e2
  refine⟨_,_,⟨0,0,j+1,c,⋯,⋯,c0,Kj _,rfl⟩,⟨j+1,0,a,c,⋯,Kj _,c0,Kj _,rfl⟩,q0R bC (qt hq),q0R bC (pT hq),?_⟩;rw[d ⋯ ⋯ c0 (Kj _),d ⋯ (Kj _) c0 (Kj _),all,<- Nat.add_mul]
  congr 1;omega
 ·exact nomatch J0.mp hw
structure ES(rs:Yaa)(nms:List (List Nat))(p:aO)(r c:Nat)(dn:K7)(tb:Tb):Prop where
 nd:(tb.map (·.1)).Nodup
 key:∀k v,aM tb k=some v->tx k.1∈dn/\k.2∈nms/\Dv rs k v/\1<=v
 bnd:∀k v,aM tb k=some v->∀q,bM p r c q->k.1=bC q->v+585<=1170*(bG q:Int)
 don:∀z∈dn,∃q,bM p r c q/\z=tx (bC q)
 tur:∀q,bM p r c q->tx (bC q)∈dn->∀t,t<8->tx (bC (turned q t))∈dn
 prt:∀q,bM p r c q->tx (bC q)∈dn->∀x∈rs,∀w∈bL x q,∀k∈w,tx k.1∈dn
 clo:∀q,bM p r c q->tx (bC q)∈dn->GW rs (aM tb) q
structure ke(rs:Yaa)(nms:List (List Nat))(p:aO)(r c:Nat):Prop where
 hp:rect p r c
 r0:0<r
 c0:0<c
 r6:r<=6
 c6:c<=6
 ns:bU p
 gd:∀x∈rs,lT x
 nm:∀x∈rs,x.2.n∈nms
 n8:nms.length<=8
 r24:rs.length<=24
theorem ke.turn3{rs:Yaa}{nms:List (List Nat)}{p:aO}{r c:Nat}(E:ke rs nms p r c){x:Nat×RV}(h:x∈ot rs):G3 rs nms x:=by
 obtain⟨h1,h2⟩:=List.mem_filter.mp h;have h3:x.1=3:=by simpa using h2
 have g:=(E.gd x h1).good;exact⟨h1,⋯,g.c1,g.c9,g.t0,g.t7,E.nm x h1⟩
structure sW(rs:Yaa)(p:aO)(r c:Nat)(dn:K7)(q:aO):Prop where
 sq:bM p r c q
 fr:∀t,t<8->tx (bC (turned q t))∉dn
 pt:∀q',bM p r c q'->bG q'<bG q->tx (bC q')∈dn
theorem sW.parts{rs:Yaa}{nms:List (List Nat)}{p:aO}{r c:Nat}{dn:K7}{q:aO}(E:ke rs nms p r c)(N:sW rs p r c dn q){t:Nat}(ht:t<8){x:Nat×RV}(hx:x∈rs)(h3:x.1≠3){w:List Ky}(hw:w∈bL x (turned q t)){k:Ky}(hk:k∈w):∃q',bM p r c q'/\k.1=bC q'/\tx k.1∈dn:=by
 have g:=E.gd x hx;obtain⟨a,b,h1,h2,i,_⟩:=N.sq.rect E.hp;obtain⟨q',d,e,h⟩:=iN E.hp (N.sq.turned E.hp ht) g.good.t0 g.good.t7 hw hk;rcases h with h | h
 ·rw[ic h1 h2 i]at h
  exact⟨q',d,e,by rw[e];exact N.pt q' d h⟩
 ·have:=g.k4
  omega
theorem sW.notIn{rs:Yaa}{nms:List (List Nat)}{p:aO}{r c:Nat}{dn:K7}{q:aO}(N:sW rs p r c dn q){k:Ky}(h:tx k.1∈dn){t:Nat}(ht:t<8):k.1≠bC (turned q t):=λe=>N.fr t ht (by rw[<- e];exact h)
theorem si{p q:aO}{r c:Nat}(hp:rect p r c)(r6:r<=6)(c6:c<=6)(h:bM p r c q):∃a b,iE q a b:=by
 obtain⟨a,b,h1,h2,d,h4,h5⟩:=h.rect hp;exact⟨a,b,h1,h2,⋯,d,⋯⟩
theorem ES.pta{rs:Yaa}{nms:List (List Nat)}{p:aO}{r c:Nat}{dn:K7}{q:aO}{tb:Tb}(E:ke rs nms p r c)(N:sW rs p r c dn q)(S:ES rs nms p r c dn tb):∀n,n<=8->CF rs (eN rs) q tb (pta rs (eN rs) q tb n) n:=
 uH (a:=0) (c:=0) (λx hx=>(E.gd x hx).k4) (λt ht=>si E.hp E.r6 E.c6 (N.sq.turned E.hp ht)) λt ht x hx h3 w hw k hk t' ht'=>by
  obtain⟨_,_,_,h⟩:=N.parts E ht hx h3 hw hk;exact N.notIn (nms:=nms) h ht'
theorem qf{p q:aO}{r c:Nat}(hp:rect p r c)(h:bM p r c q):1<=bG q:=by
 obtain⟨a,b,h1,h2,d,_⟩:=h.rect hp;unfold bG;rw[h1.1,bc h1 h2];exact Nat.mul_pos h2 d
theorem ES.start{rs:Yaa}{nms:List (List Nat)}{p:aO}{r c:Nat}{dn:K7}{q:aO}{tb tb8:Tb}(E:ke rs nms p r c)(N:sW rs p r c dn q)(S:ES rs nms p r c dn tb)(PS:CF rs (eN rs) q tb tb8 8) :
  TI (ot rs) rs q nms (1170*bG q-1161) tb8.length tb8 tb8 (λk=>k∈CK q nms/\∃v,aM tb8 k=some v):=by
 have hcp:=qf E.hp N.sq;have new:∀k∈CK q nms,∀v,aM tb8 k=some v->Dv rs k v/\1<=v/\v<=((1170*bG q-1161:Nat):Int):=by
  intro k hk v hv;rcases PS.val k v hv with h | ⟨t,ht,x,hx,h3,w,hw,hc,rfl⟩
  ·obtain⟨t,ht,n,_,rfl⟩:=jI.mp hk
   exact q0Q (S.key _ v h).1 (N.fr t ht)
  ·have g:=(E.gd x hx).good
   have hst:=N.sq.turned E.hp ht;have g1:=g.c1;have g9:=g.c9;refine⟨CI hx (eC E.hp E.ns hst) hw hc λk hk u hu=>(S.key k u hu).2.2.1,?_⟩;rcases qK hw with rfl | ⟨k,rfl⟩ | ⟨k1,k2,rfl⟩
   ·injection hc with hc
    omega
   ·obtain⟨a,b,h1,h2,h4,_⟩:=hst.rect E.hp
    rcases qr h1 h2 h4 hw (J0.mpr rfl) with⟨t,l,b,y,k1,k2,k3,k4,k5,k6,k7⟩ | ⟨k1,_⟩
    ·exfalso
     unfold bL at hw
     split at hw
     ·split at hw
      ·exact nomatch J0.mp hw
      ·exact nomatch hw
     ·obtain⟨_,_,e⟩:=KI.mp hw;exact nomatch e
     ·obtain⟨_,_,e⟩:=KI.mp hw;exact nomatch e
     ·rename_i y z0 z1 z2
      rcases hh:x.1 with _ | _ | _ | n
      ·exact q0Q hh z0
      ·exact q0Q hh z1
      ·exact q0Q hh z2
      ·omega
    ·have:=(E.gd x hx).k4
     omega
   ·obtain⟨u1,u2,e1,e2,rfl⟩:=um hc
    obtain⟨a,b,h1,h2,h4,_⟩:=hst.rect E.hp;obtain⟨q1,q2,⟨t1,l1,b1,x1,m1,m2,m3,m4,rfl⟩,⟨t2,l2,b2,x2,n1,n2,n3,n4,rfl⟩,f1,f2,f3⟩:=Dg h1 h2 h4 hw;rw[ic (N.sq.rect E.hp).choose_spec.choose_spec.1 (N.sq.rect E.hp).choose_spec.choose_spec.2.1 (N.sq.rect E.hp).choose_spec.choose_spec.2.2.1]at f3;have o1:=S.bnd k1 u1 e1 _ (hst.cut E.hp h1 m1 m2 m3 m4) f1;have o2:=S.bnd k2 u2 e2 _ (hst.cut E.hp h1 n1 n2 n3 n4) f2;have p1:=(S.key k1 u1 e1).2.2.2;have p2:=(S.key k2 u2 e2).2.2.2;omega
 refine⟨PS.nd S.nd,vh.refl _,λ_ _=>rfl,λk hk v hv=>(new k hk v hv).1,λk hk v hv no=>q0Q ⟨hk,v,hv⟩ no,λk ho=>ho,λk hk v hv=>?_,Nat.le_add_right _ _⟩;have:=new k hk v hv;exact⟨this.2.1,⋯⟩
theorem ES.enter{rs:Yaa}{nms:List (List Nat)}{p:aO}{r c:Nat}{dn dn':K7}{q:aO}{tb tb8 tb':Tb}(E:ke rs nms p r c)(N:sW rs p r c dn q)(S:ES rs nms p r c dn tb)(PS:CF rs (eN rs) q tb tb8 8)
  (h:TI (ot rs) rs q nms (1170*bG q-1161) tb8.length tb8 tb' (λ_=>False)) (hd:∀z,z∈dn'↔z∈dn\/∃t,t<8/\z=tx (bC (turned q t))):ES rs nms p r c dn' tb':=by
 have hcp:=qf E.hp N.sq;obtain⟨a0,b0,B,y,o,_⟩:=N.sq.rect E.hp;have T:∀t,t<8->zB (turned q t):=λt d=>eC E.hp E.ns (N.sq.turned E.hp d);have ck:∀k,k∉CK q nms->∀v,aM tb' k=some v->aM tb k=some v:=λk b v j=>by
  rw[h.out k b]at j;rcases PS.val k v j with e | ⟨t,d,x,C,_,w,_,_,rfl⟩
  ·exact e
  ·exact q0Q (jI.mpr ⟨t,d,_,E.nm x C,rfl⟩) b
 have M:∀k:Ky,tx k.1∈dn->aM tb' k=aM tb k:=λk b=>by
  have nc:∀t,t<8->k.1≠bC (turned q t):=λt d=>N.notIn (nms:=nms) b d;rw[h.out k λe=>by obtain⟨t,d,n,_,rfl⟩:=jI.mp e;exact nc t d rfl,PS.out k nc]
 have h64:=h_ (CK q nms) tb';have hl:=rU q nms;have n8:=E.n8;have L:∀{i:aO},bM p r c i->tx (bC i)∈dn'->tx (bC i)∈dn\/∃t,t<8/\i=turned q t:=fun{i} l I=>by
  rcases(hd _).mp I with h | ⟨t,d,e⟩
  ·exact .inl h
  ·exact .inr ⟨t,d,(eC E.hp E.ns l).inj (T t d) (dB e)⟩
 refine⟨h.nd,λk v j=>?_,λk v j i l e=>?_,λz I=>?_,λi l I t d=>?_,λi l I x C w D k b=>?_,λi l I x C w D v j=>?_⟩
 ·by_cases b:k∈CK q nms
  ·obtain⟨t,d,n,hn,rfl⟩:=jI.mp b
   exact⟨(hd _).mpr (.inr ⟨t,d,rfl⟩),hn,h.snd _ b v j,(h.pos _ b v j).1⟩
  ·obtain⟨k1,k2⟩:=S.key k v (ck k b v j)
   exact⟨(hd _).mpr (.inl k1),k2⟩
 ·by_cases b:k∈CK q nms
  ·have:=(h.pos _ b v j).2
   obtain⟨t,d,n,hn,rfl⟩:=jI.mp b;have Y:=(T t d).inj (eC E.hp E.ns l) e;rw[<- Y,ic B y o];omega
  ·exact S.bnd k v (ck k b v j) i l e
 ·rcases(hd z).mp I with h1 | ⟨t,d,rfl⟩
  ·exact S.don z h1
  ·exact⟨_,N.sq.turned E.hp d,rfl⟩
 ·rcases L l I with h1 | ⟨u,G,rfl⟩
  ·exact(hd _).mpr (.inl (S.tur i l h1 t d))
  ·exact(hd _).mpr (.inr ⟨after u t,gL G d,by rw[bX B y o G d]⟩)
 ·rcases L l I with h1 | ⟨u,G,rfl⟩
  ·exact(hd _).mpr (.inl (S.prt i l h1 x C w D k b))
  ·have g:=(E.gd x C).good
   by_cases U:x.1=3
   ·rw[lG ⋯]at D
    rw[J0.mp D]at b;rw[J0.mp b];have R:cY x.2.t.toNat<8:=jb (by have:=g.t0;have:=g.t7;omega);exact(hd _).mpr (.inr ⟨after u (cY x.2.t.toNat),gL G R,by rw[bX B y o G R]⟩)
   ·obtain⟨_,_,_,h5⟩:=N.parts E G C U D b
    exact(hd _).mpr (.inl h5)
 ·rcases L l I with h1 | ⟨u,G,rfl⟩
  ·rw[i5 (T':=aM tb) λk b=>M k (S.prt i l h1 x C w D k b)]at j
   rw[M (bC i,x.2.n) h1];exact S.clo i l h1 x C w D v j
  ·have g:=(E.gd x C).good
   by_cases U:x.1=3
   ·have J:x.2.t.toNat<8:=by have:=g.t0;have:=g.t7;omega
    have R:cY x.2.t.toNat<8:=jb J;rw[lG ⋯]at D;rw[J0.mp D]at j;obtain⟨a,ha,rfl⟩:=oV j;have O:=gL G R;have Z:=cF B y o u;have et:turned (turned q u) (cY x.2.t.toNat)=turned q (after u (cY x.2.t.toNat)):=bX B y o G R;rw[et]at ha
    by_cases b:(bC (turned q (after u (cY x.2.t.toNat))),x.2.o1)∈CK q nms
    ·obtain⟨v',l',Y⟩:=h.sett _ b a ha id x (List.mem_filter.mpr ⟨C,by simpa using U⟩) rfl _ O rfl
     refine⟨v',⋯,?_⟩;have e2:turned q (after (after u (cY x.2.t.toNat)) x.2.t.toNat)=turned q u:=by
      rw[<- bX B y o O J,<- et,bX Z (by split<;>assumption) (by split<;>assumption) R J,we J,uZ]
     unfold gB at Y;rw[e2]at Y;exact Y
    ·exact q0Q (S.key _ a (ck _ b a ha)).1 (N.fr _ O)
   ·have hc:bS (aM tb) x.2.c w=some v:=by
     rw[<- j];exact i5 λk b=>by
      obtain⟨_,_,_,h5⟩:=N.parts E G C U D b;exact(M k h5).symm
    obtain⟨m,hm⟩:=List.mem_iff_getElem?.mp C;obtain⟨v1,l1,e1⟩:=PS.all u G m (kj.mpr ⟨x,hm,U⟩) x hm w D v hc;obtain⟨v2,l2,e2⟩:=h.le _ _ e1;exact⟨v2,Int.le_trans l2 l1,e2⟩
abbrev sZ:Stmt:=fP 53
inductive m6(vs:List V)(H:Hp)(Q:VK)(_E:XK):Prop
 |mk (d b:Addr) (tb:Tb) (k:Ky) (v:Int) (_:vs=[.ref d,.ref b,.int v]) (_:cy H d tb) (_:bu H b k) (_:tb.length<sizeLine) (_:∀H',cy H' d (dH tb k v)->bh d H H'->Q (.bl (gY tb k v)) H')
theorem Bs:aE ["told","key","cost"] ["told","key","cost"] (av sZ):=by walk_at "c"
theorem Bk{f:Addr}{fd:K5}(F:dr K "lower" "lower" sZ f fd)(nb:NB mg):br P w K mg base bD 1 f fd ["told","key","cost"] m6:=by
 have sc:=Bs;walk_at "f"
 ·obtain⟨d,b,tb,k,v,rfl,m,n,o,q⟩:=h
  have l:=m.told.get n;have j:=hr.units;have fin:gY tb k v=true->∀H2,H2=aD H d (.dT (dw (tb.map eO) (fD k) (.int v)))->Q (.bl true) H2:=λa H2 e=>by
   have p:dH tb k v=pj tb k v:=by unfold dH;rw[q07 a]
   have:=q H2 (by rw[p,e,AD];exact af) (by rw[e];exact(bh.of λ_ _ h=>h).put)
   rwa [a]at this
  have c:yG H d (.ref b) (.int v) (aD H d (.dT (dw (tb.map eO) (fD k) (.int v)))):=yG.t m n (by rw[JZ];exact o);refine⟨_,(ae (bJ (PW.pt (fL (tf (vL (KG (KL (by decide:1<=64) _) j) (am 1) (am 0)) (by with_unfolding_all rfl)) (eV (aL (bj.m0 pZ) (ik (KG (KL (by decide:1<=64) _) j) (am 0) (am 1) (λ_ _=>rfl)) (am 2) (aQ _)))))
   (ag (aK gM))
   aV)
   (ae (re (KG (KL (by decide:1<=64) _) j) (am 0) (am 1) (am 2) rfl)
   (ag (aK gM)))),?_⟩
  walk_at "n";refine⟨_,l,?_⟩;cases i:aM tb k with
  |none=>
   rw[q06 (by simp)];refine h1 _ _ ?_;walk_at "wp";exact⟨_,c,fin (by unfold gY;rw[i]) _ rfl⟩
  |some u=>
   rw[i]at l;rw[q07 (by rfl)];refine⟨_,l,u,rfl,?_⟩
   by_cases g:u<=v
   ·rw[q07 g]
    have a:gY tb k v=false:=by unfold gY;rw[i];simp;omega
    have:=q H (by unfold dH;rw[a];exact m) (bh.of λ_ _ h=>h)
    rwa [a]at this
   ·rw[q06 g]
    refine h1 _ _ ?_;walk_at "wp";exact⟨_,c,fin (by unfold gY;rw[i];simp;omega) _ rfl⟩
abbrev fJ:Stmt:=fP 52
inductive iq(R:RC)(CG CC:Addr)(vs:List V)(H:Hp)(Q:VK)(_E:XK):Prop
 |mk (g dx ln cu d:Addr) (sg st:K0) (as:K3) (rs:Yaa) (ns:K0) (p:aO) (r c:Nat) (tb:Tb) (_:vs=[.ref g,.ref ln,.ref cu,.ref d]) (_:dF R H CG dx g sg st as rs) (_:(∀r∈rs,lT r)) (_:H ln=some (.lst (wV ns))) (_:(∀n∈ns,n<rs.length)) (_:ns.length<=100) (_:eJ CC H cu p) (_:iE p r c) (_:cy H d tb) (_:tb.length<=10000000) (_:∀H',cy H' d (Fl rs ns p tb)->bh d H H'->Q .non H')
theorem mq:aE ["grammar","numbers","cuts","told","cost","number","way"] ["grammar","numbers","cuts","told"] (av fJ):=by walk_at "c"
theorem mD{R:RC}{f CG CC:Addr}{fd:K5}(F:dr K "put_together" "put_together" fJ f fd)(nb:NB mg)(rk:lI K R)(clC:jv K CC)(naC:DP K CC)(yai:jk P w K mg base bD 1 CG "rule" ["self","k"] (fb R CG))(yaO:dG P w K mg base bD 6 "coming" ["grammar","numbers","cuts","told"] (qk R CG CC))(yah:dG P w K mg base bD 1 "lower" ["told","key","cost"] m6):br P w K mg base bD 7 f fd ["grammar","numbers","cuts","told"] (iq R CG CC):=by
 have sc:=mq;walk_at "f"
 ·obtain⟨g,dx,ln,cu,d,sg,st,as,a,ns,p,r,c,tb,rfl,hG,hg,a5,G,o,hC,hp,hT,htl,q⟩:=h
  have hu:=hr.units;refine⟨_,(ag (bg PassesOwn.never rfl (bi (q00 yaO hr (ac (am 0) (ac (am 1) (ac (am 2) (ac (am 3) ad)))))) (iT (n:=3) rfl (bf (q02 4 sc.nd) (bf (q02 5 sc.nd) (bf (q02 6 sc.nd) dQ))))
   (ag (bo (q00 yah hr (ac (am 3) (ac (bN (ac (cC (am 2) rfl) (ac (cC (qN yai (hr.mono (by decide)) aJ (am 0) (ac (am 5) ad)) rfl) ad))) (ac (am 4) ad)))))))),?_⟩
  walk_at "wp";refine⟨g,dx,ln,cu,d,sg,st,as,a,ns,p,r,c,aM tb,rfl,hG,hg,a5,G,o,hC,hp,hT.told,λl H1 hl hL M=>?_⟩;obtain⟨bs,hb,hA⟩:=hL;have u:cy H1 d tb:=hT.up M;have a9:=hG.up M;have b0:=hC.up M;have a0:=jG (T:=aM tb) hp (λr hr=>(hg r hr).k4) ns;have z:∀y∈ns.flatMap (cS (aM tb) a p),y.2.1∈ns:=λy O=>(p7 O).1;have a4:Fl a ns p tb=pO a p tb (ns.flatMap (cS (aM tb) a p)):=rfl;rw[a4]at q;generalize ns.flatMap (cS (aM tb) a p)=ys at hA a0 z q;have a7:=hA.1;refine⟨l,rfl,⟨_,aN.of hb⟩,?_⟩;refine bQ (xs:=bs.map V.ref) (λi σ v=>bh d H1 v/\cy v d (pO a p tb (ys.take i))/\i<=bs.length/\∃Y U S,σ=[some (V.ref g),some (V.ref ln),some (V.ref cu),some (V.ref d),Y,U,S]) ⟨bh.of λ_ _ h=>h,u,Kk _,_,_,_,rfl⟩ (λi σ v _ h=>aN.of ((h.1.kp u).lst hb)) ?_ ?_
  ·rintro i x σ v hx ⟨L,k,_,Y,U,S,rfl⟩
   rw[J1]at hx;obtain⟨b,I,rfl⟩:=Kn.mp hx;have hi:=(JX.mp I).1;obtain⟨y,O,a1⟩:=hA.get I;have kp:=L.kp u;obtain⟨lw,a8,_⟩:=a1.kp kp;obtain⟨j,m⟩:∃j,a[y.2.1]?=some j:=⟨_,JW (G _ (z y (J2 O)))⟩;have J:=a9.kp kp;obtain⟨dxc,lp,lb,la,a6,_⟩:=b0.kp kp;obtain⟨lk,pn,t0,ha,hkk,C,hN,hmm⟩:=id J;obtain⟨ra,D⟩:∃b,as[y.2.1]?=some b:=⟨_,JW (by rw[C.1];exact(JX.mp m).1)⟩;obtain⟨rdx,rl,a3,_⟩:=C.2 _ ra j D m;walk_at "wp";refine⟨_,dt.of a8,rfl,_,_,rfl,_,_,rfl,_,_,rfl,rfl,?_⟩;refine⟨_,_,_,a6,clC,naC.2.1,_,rfl,dx,_,ha,rfl,g,dx,sg,st,as,a,y.2.1,ra,rfl,J,D,?_⟩;refine⟨ra,rfl,_,_,_,a3,(rk.icls j.1).cl,(rk.name j.1).1,_,(jd rl j.2 j.1).1,au (by decide),λtp B=>?_⟩;have hps:=(li a p (ys.take i) tb).len;have htk:(ys.take i).length<=ys.length:=by rw[KA];omega
   refine⟨d,tp,pO a p tb (ys.take i),(bC p,j.2.n),y.1,rfl,k.up (ak B),af,?_,λH2 a2 Z=>⟨L.trans ((bh.of (ak B)).trans Z),?_,hi⟩⟩
   ·have:=q0W;omega
   ·have e:pO a p tb (ys.take (i+1))=dH (pO a p tb (ys.take i)) (bC p,j.2.n) y.1:=by
     unfold pO;rw[q0E,O,List.foldl_append];show dH _ (bC p,lh a y.2.1) y.1=_;rw[show lh a y.2.1=j.2.n by unfold lh;rw[m]]
    rw[e];exact a2
  ·rintro σ v ⟨L,k,_,Y,U,S,rfl⟩
   rw[JZ,a7,Kz]at k;exact q v k ((bh.of M).trans L)
abbrev tF:Stmt:=fP 20
inductive tK(vs:List V)(H:Hp)(Q:VK)(_E:XK):Prop
 |mk (t u:Nat) (_:vs=[.int (t:Int),.int (u:Int)]) (_:t<8) (_:u<8) (_:Q (.int (after t u:Nat)) H)
theorem A1:aE ["t","u"] ["t","u"] (av tF):=by walk_at "c"
theorem zN{f:Addr}{fd:K5}(F:dr K "after" "after" tF f fd):br P w K mg base bD 1 f fd ["t","u"] tK:=by
 have sc:=A1;walk_at "f"
 ·obtain⟨t,u,rfl,ht,hu,q⟩:=h
  refine⟨_,(ae (bJ (aL kn (pv 1) ai (aQ _))
   (ag (aK (aw bO (aw dz (aw bd (pv 0) ai) ai) (aw a_ (aw bO (pv 0) (pv 1)) ai))))
   aV)
   (ag (aK (aw bO (aw dz (aw ii ai (aw bd (pv 0) ai)) ai) (aw a_ (aw ii (pv 1) (pv 0)) ai))))),?_⟩
  walk_at "wp"
  split
  ·have e:((after t u:Nat):Int)=(t:Int)/4*4+((t:Int)+u)%4:=by unfold after;rw[q07 ⋯];omega
   rw[<- e];exact q
  ·have e:((after t u:Nat):Int)=(1-(t:Int)/4)*4+((u:Int)-t)%4:=by unfold after;rw[q06 ⋯];omega
   rw[<- e];exact q
theorem aS.app{β:Type}{A:Hp->Addr->β->Prop}{H:Hp}:∀{bs2:K3} {ys2:List β} {bs:K3} {ys:List β},aS A H bs ys->aS A H bs2 ys2->aS A H (bs++bs2) (ys++ys2)
 | [],[],bs,ys,h,_=>by rw[Kv,Kv];exact h
 | [],_::_,_,_,_,h2=>nomatch h2.1
 |_::_,[],_,_,_,h2=>nomatch h2.1
 |b::bs2,y::ys2,bs,ys,h,h2=>by
  have h3:aS A H bs2 ys2:=⟨Nat.succ.inj h2.1,λi c z e1 e2=>h2.2 (i+1) c z e1 e2⟩;have:=aS.app (h.snoc (h2.2 0 b y rfl rfl)) h3
  rwa [Kw,Kw]at this
theorem zQ{H:Hp}{a b:Addr}{xs:List V}{Q:VK}{neg:Bool}(ha:H a=some (.lst xs))(hb:H b=some (.lst []))(q:Q (.bl (xs.isEmpty != neg)) H):CQ K neg (.ref a) (.ref b) H Q:=by
 cases xs with
 |nil=>
  refine .inl ⟨[],by unfold Dt.deps;omega,.inl ⟨?_,?_⟩,by simpa using q⟩
  ·unfold ki;exact⟨a,_,rfl,aN.of ha,by unfold eF;rfl⟩
  ·unfold ki;exact⟨b,_,rfl,aN.of hb,by unfold eF;rfl⟩
 |cons x xs=>exact .inr ⟨a,b,_,_,rfl,rfl,aN.of ha,aN.of hb,by simp,by simpa using q⟩
def eZ(q:aO):List Str:=(List.range 8).map λt=>tx (bC (turned q t))
def jA(q:aO)(ns:List (List Nat))(tb:Tb)(n:Nat):List Ky:=((List.range n).flatMap λt=>ns.map λn=>(bC (turned q t),n)).filter λk=>(aM tb k).isSome
theorem oS(q:aO)(ns:List (List Nat))(tb:Tb)(n:Nat):jA q ns tb (n+1)=jA q ns tb n++ns.filterMap λm=>if(aM tb (bC (turned q n),m)).isSome=true then some (bC (turned q n),m) else none:=by
 unfold jA;rw[q0M,List.flatMap_append,List.filter_append]
 congr 1
 rw[show([n].flatMap λt=>ns.map λn=>(bC (turned q t),n))=ns.map λm=>(bC (turned q n),m) by simp]
 induction ns with
 |nil=>rfl
 |cons m ns ih=>
  rw[Kq,List.filter_cons,q0U];cases h:(aM tb (bC (turned q n),m)).isSome with
  |true=>simp only[q07];rw[ih]
  |false=>simp only[q0a,if_false];exact ih
theorem k8(q:aO)(ns:List (List Nat))(tb:Tb):∀n,(jA q ns tb n).length<=n*ns.length
 |0=>by simp[jA]
 |n+1=>by
  rw[oS,Ki,Nat.add_mul,Nat.one_mul];exact Nat.add_le_add (k8 q ns tb n) (List.length_filterMap_le _ _)
theorem qo{q:aO}{ns:List (List Nat)}{tb:Tb}{k:Ky}:k∈jA q ns tb 8↔k∈CK q ns/\∃v,aM tb k=some v:=by
 unfold jA;rw[List.mem_filter,Option.isSome_iff_exists];rfl
theorem uq{z:Str}:∀{ts:K7},z∈ts->∃j:Nat,ts[j]?=some z/\∀(m:Nat) (y:Str),m<j->ts[m]?=some y->y≠z
 | [],h=>nomatch h
 |x::ts,h=>by
  by_cases e:x=z
  ·exact⟨0,by rw[e];rfl,λm y hm=>q0Q hm (Nat.not_lt_zero _)⟩
  ·rcases Kb.mp h with h | h
   ·exact q0Q h.symm e
   ·obtain⟨j,h1,h2⟩:=uq h
    refine⟨j+1,h1,λm y hm hy=>?_⟩;cases m with
    |zero=>rw[List.getElem?_cons_zero]at hy;cases hy;exact e
    |succ m=>exact h2 m y ⋯ hy
theorem Ef{q:aO}{t:Nat}{z:Str}(h:(eZ q)[t]?=some z):t<8/\z=tx (bC (turned q t)):=by
 unfold eZ at h;rw[J1]at h;obtain⟨x,a,rfl⟩:=Kn.mp h;have b:=(JX.mp a).1;rw[q0J]at b;rw[List.getElem?_range b]at a;cases a;exact⟨b,rfl⟩
theorem zI{q:aO}{t:Nat}(h:t<8):(eZ q)[t]?=some (tx (bC (turned q t))):=by
 unfold eZ;rw[J1,List.getElem?_range h];rfl
inductive G9(H:Hp)(q:aO)(ns:List (List Nat))(tb0:Tb)(lr lt ln d l:Addr)(i:Nat)(H':Hp):St->Prop
 |mk (bs:K3) (x5 x6 x7 x8 x9:Option V) (_:aB H H') (_:H' l=some (.lst (bs.map V.ref))) (_:aS bu H' bs (jA q ns tb0 i)):G9 H q ns tb0 lr lt ln d l i H' [some (V.ref lr),some (V.ref lt),some (V.ref ln),some (V.ref d),some (V.ref l),x5,x6,x7,x8,x9]
inductive G'(H:Hp)(trs rs:Yaa)(q:aO)(ns:List (List Nat))(M L0:Nat)(tb0:Tb)(lr lt ln d:Addr)(m:Nat)(H':Hp):St->Prop
 |mk (tb:Tb) (chs:List Ky) (l2:Addr) (cs:K3) (x5 x6 x7 x8 x9:Option V) (_:bh d H H') (_:cy H' d tb) (_:H' l2=some (.lst (cs.map V.ref))) (_:aS bu H' cs chs) (_:TI trs rs q ns M L0 tb0 tb (λk=>k∈chs)) (_:chs.length<=8000000) (_:m=Eg (CK q ns) (M+576) tb+(if chs=[] then 0 else 1)):G' H trs rs q ns M L0 tb0 lr lt ln d m H' [some (V.ref lr),some (V.ref lt),some (V.ref ln),some (V.ref d),some (V.ref l2),x5,x6,x7,x8,x9]
structure Hh(trs rs:Yaa)(q:aO)(ns:List (List Nat))(M L0:Nat)(tb0 tb:Tb)(all:List Ky)(d l2 lw:Addr)(cs:K3)(H H':Hp)(i:Nat)(tb5:Tb)(ws:K3)(lws:List Ky):Prop where
 sx:bh d H H'
 l:H' l2=some (.lst (cs.map V.ref))
 cA:aS bu H' cs all
 T:cy H' d tb5
 w:H' lw=some (.lst (ws.map V.ref))
 wA:aS bu H' ws lws
 I:TI trs rs q ns M L0 tb0 tb5 (λk=>k∈all.drop i\/k∈lws)
 m:Eg (CK q ns) (M+576) tb5+lws.length<=Eg (CK q ns) (M+576) tb
inductive He(trs rs:Yaa)(q:aO)(ns:List (List Nat))(M L0:Nat)(tb0 tb:Tb)(all:List Ky)(lr lt ln d l2 lw:Addr)(cs:K3)(H H':Hp)(i:Nat):St->Prop
 |mk (tb5:Tb) (ws:K3) (lws:List Ky) (x5 x7 x8 x9:Option V) (_:Hh trs rs q ns M L0 tb0 tb all d l2 lw cs H H' i tb5 ws lws):He trs rs q ns M L0 tb0 tb all lr lt ln d l2 lw cs H H' i [some (V.ref lr),some (V.ref lt),some (V.ref ln),some (V.ref d),some (V.ref l2),x5,some (V.ref lw),x7,x8,x9]
inductive G_(trs rs:Yaa)(q:aO)(ns:List (List Nat))(M L0:Nat)(tb0 tb:Tb)(all:List Ky)(lr lt ln d l2 lw:Addr)(cs:K3)(H:Hp)(i t:Nat)(k:Ky)(v:Int)(H':Hp)(j:Nat):St->Prop
 |mk (tb5:Tb) (ws:K3) (lws:List Ky) (x8 x9:Option V) (_:Hh trs rs q ns M L0 tb0 tb all d l2 lw cs H H' i tb5 ws lws) (_:aM tb5 k=some v) (_:∀r∈trs.take j,r.2.o1=k.2->∃v',v'<=v+r.2.c/\aM tb5 (gB q r t)=some v'):G_ trs rs q ns M L0 tb0 tb all lr lt ln d l2 lw cs H i t k v H' j [some (V.ref lr),some (V.ref lt),some (V.ref ln),some (V.ref d),some (V.ref l2),some (V.str (tx k.1)),some (V.ref lw),some (V.str (tx k.2)),x8,x9]
abbrev im:Stmt:=fP 54
theorem tZ{c:TT}{tb:TS}{D:g_}{σ:St}{H:Hp}(h:∀tb',tb'=tb->vR c tb' D σ H):vR c tb D σ H:=h tb rfl
theorem zn{n:Nat}(h:n<=8000000):n<sizeLine:=by have:=q0W;omega
inductive jw(R:RC)(vs:List V)(H:Hp)(Q:VK)(_E:XK):Prop
 |mk (lr lt ln d:Addr) (as:K3) (trs rs:Yaa) (q:aO) (a c:Nat) (ns:List (List Nat)) (M L0:Nat) (tb0:Tb) (_:vs=[.ref lr,.ref lt,.ref ln,.ref d]) (_:H lr=some (.lst (as.map V.ref))) (_:bI R H as trs) (_:H lt=some (.lst ((eZ q).map V.str))) (_:H ln=some (.lst (ns.map λn=>V.str (tx n)))) (_:cy H d tb0) (_:rect q a c) (_:0<a) (_:0<c) (_:(∀t,t<8->zB (turned q t))) (_:ns.length<=8) (_:(∀r∈trs,G3 rs ns r/\r.1=3)) (_:TI trs rs q ns M L0 tb0 tb0 (λk=>k∈CK q ns/\∃v,aM tb0 k=some v)) (_:M<=100000) (_:L0<=10000000) (_:∀H' tb',cy H' d tb'->TI trs rs q ns M L0 tb0 tb' (λ_=>False)->bh d H H'->Q .non H')
theorem pC:aE ["rules","texts","names","told","changed","text","lowered","name","rule","key"] ["rules","texts","names","told"] (av im):=by walk_at "c"
theorem pK{R:RC}{f:Addr}{fd:K5}(F:dr K "turn_about" "turn_about" im f fd)(nb:NB mg)(rk:lI K R)(yaE:dG P w K mg base bD 1 "after" ["t","u"] tK)(yah:dG P w K mg base bD 1 "lower" ["told","key","cost"] m6):br P w K mg base bD 2 f fd ["rules","texts","names","told"] (jw R):=by
 have sc:=pC;walk_at "f"
 ·obtain⟨lr,lt,ln,d,as,trs,rs,q,a,c,ns,M,L0,tb0,rfl,hlr,hrs,hlt,hln,hT,hq,a0,c0,hO,h8,hR,hTI,hM,hL0,qq⟩:=h
  have hu:=hr.units;refine⟨_,(ae (q01 4 sc.nd (bz ad))
   (ae (bg PassesOwn.never rfl (bi (am 1)) (ay (i:=5) sc.nd rfl (Or.inr rfl))
   (ag (bo (cP PySem.F.plainAttrs_list PySem.F.slot_list_extend PySem.F.type_list_extend zg (am 4) (ac (bZ ["name"] [5,3] rfl (bE.of (by kernel_rfl)) (by kernel_rfl) (bi (am 2))
    (λ_ _ _ _=>(ay (i:=0) (by show(["name","text","told"]:List Str).Nodup;decide +kernel) rfl (Or.inl rfl))) (λ_ _ _ _=>(kg (tf (vL (KG (KL (by decide:1<=64) _) hu) (bN (ac (am 1) (ac (am 0) ad))) (am 2)) (by with_unfolding_all rfl)))) (λ_ _ _ _=>(bN (ac (am 1) (ac (am 0) ad))))) ad)))))
   (ag (A9 PassesOwn.never (aL (rh hu) (am 4) (bz ad) (aQ _)) (ae (q01 6 sc.nd (bz ad))
   (ae (bg PassesOwn.never rfl (bi (am 4)) (iT (n:=2) rfl (bf (ay (i:=5) sc.nd rfl (Or.inr rfl)) (bf (q02 7 sc.nd) dQ)))
   (ag (bg PassesOwn.never rfl (bi (am 0)) (q02 8 sc.nd)
   (ae (q01 9 sc.nd (bN (ac (aU aY (am 1) (q00 yaE hr (ac (cP PySem.F.plainAttrs_list PySem.F.slot_list_index PySem.F.type_list_index yE (am 1) (ac (am 5) ad)) (ac (cC (am 8) rfl) ad))) (λ_ _=>rfl)) (ac (cC (am 8) rfl) ad))))
   (ag (bJ (PW.pt (fL (aL dm (cC (am 8) rfl) (am 7) (aQ _)) (eV (eS (q00 yah hr (ac (am 3) (ac (am 9) (ac (aw (bj.m0 bO) (ik (KG (KL (by decide:1<=64) _) hu) (am 3) (bN (ac (am 5) (ac (am 7) ad))) (λ_ _=>rfl)) (cC (am 8) rfl)) ad)))) λ_=>rfl))))
   (ag (bo (q03 (am 6) (ac (am 9) ad))))
   aV))))))
   (ag (q01 4 sc.nd (am 6))))))))),?_⟩
  walk_at "n";refine⟨Kk _,λl hl=>h1 _ _ ?_⟩;clear h1;generalize z0:aD H l _=H1;obtain⟨s1,e1⟩:=dU hl z0;walk_at "n";have hT1:cy H1 d tb0:=hT.up s1;have hcl:(eZ q).length=8:=by unfold eZ;rw[JZ,q0J]
  refine⟨⟨_,aN.of (s1 _ _ hlt)⟩,?_⟩;refine bQ (xs:=(eZ q).map V.str) (λi σ H'=>G9 H q ns tb0 lr lt ln d l i H' σ) (.mk [] _ _ _ _ _ s1 e1 aS.nil) (λi σ H' _ h=>by cases h with | mk _ _ _ _ _ _ s=>exact aN.of (s _ _ hlt)) ?_ ?_
  ·rintro i x σ H' hx ⟨bs,x5,x6,x7,x8,x9,sm,hb,hA⟩
   rw[J1]at hx;obtain⟨z,hz,rfl⟩:=Kn.mp hx;have hi:i<8:=by have:=(JX.mp hz).1;omega
   have hz':z=tx (bC (turned q i)):=by
    unfold eZ at hz;rw[J1,List.getElem?_range hi]at hz;cases hz;rfl
   subst hz';walk_at "wp";refine⟨.inl ⟨rfl,_,aN.of hb⟩,⟨_,aN.of (sm _ _ hln)⟩,?_⟩;refine u_ bu bu.up (as:=ns) (emb:=λn=>V.str (tx n)) (f:=λn=>if(aM tb0 (bC (turned q i),n)).isSome=true then some (bC (turned q i),n) else none) (λσ=>∃x,σ=[x,some (V.str (tx (bC (turned q i)))),some (V.ref d)]) ⟨_,rfl⟩ (λH2 s2=>aN.of (s2 _ _ (sm _ _ hln))) ⋯ ?_ ?_
   ·rintro j n hn σ H2 M1 M0 ⟨x0,rfl⟩ s2 k1 k0
    have hT2:cy H2 d tb0:=(hT.up sm).up s2;walk_at "wp";refine⟨au (by decide),λtp htp=>?_⟩;generalize z0:aD H2 tp _=H3;obtain⟨s3,(hk:bu H3 tp (bC (turned q i),n))⟩:=dU htp z0;have hg:=(hT2.up s3).told.get hk;refine⟨_,hg,?_⟩;cases hv:aM tb0 (bC (turned q i),n) with
    |none=>
     rw[q06 (by simp)];exact k0 _ _ (by simp[hv]) (s2.trans s3) s3 ⟨_,rfl⟩
    |some v=>
     rw[q07 (by rfl)];exact⟨au (by decide),λt2 ht2=>k1 t2 (bC (turned q i),n) _ _ (by simp[hv]) af (s2.trans (s3.trans (ak ht2))) (s3.trans (ak ht2)) ⟨_,rfl⟩⟩
   ·intro bs2 H2 s2 hA2 l2 hl2
    generalize z0:aD H2 l2 _=H3;obtain⟨s3,e3⟩:=dU hl2 z0;have hb3:=s3 _ _ (s2 _ _ hb);have n1:=hA.1;have n2:=hA2.1;have n3:=k8 q ns tb0 i;have n4:=List.length_filterMap_le (λn=>if(aM tb0 (bC (turned q i),n)).isSome=true then some (bC (turned q i),n) else none) ns;have n5:i*ns.length<=8*8:=Nat.mul_le_mul ⋯ h8;refine⟨_,hb3,_,e3,by rw[JZ,JZ];exact au ⋯,?_⟩;refine .mk (bs++bs2) _ _ _ _ _ (bK ((sm.trans s2).trans s3) hl) (by rw[af,J_]) ?_;rw[oS];exact aS.app (hA.mono λb y _ _ h=>((h.up s2).up s3).put hb3) (hA2.mono λb y _ _ h=>(h.up s3).put hb3)
  ·rintro σ H' ⟨bs,x5,x6,x7,x8,x9,sm,hb,hA⟩
   refine h1 _ _ ?_;rw[JZ,hcl]at hA;walk_at "wp";have hTI0:=hTI.op (op':=λk=>k∈jA q ns tb0 8) (λk hk=>qo.mp hk) (λk v ho no _=>q0Q (qo.mpr ho) no);have hch:(jA q ns tb0 8).length<=8*8:=Ks (k8 q ns tb0 8) (Nat.mul_le_mul_left _ h8);have hT':cy H' d tb0:=hT.up sm;refine tZ λtw etw=>?_;refine⟨λm σ H2=>G' H trs rs q ns M L0 tb0 lr lt ln d m H2 σ,⟨_,.mk tb0 _ l bs _ _ _ _ _ (bh.of sm) hT' hb hA hTI0 ⋯ rfl⟩,?_⟩;rintro m σ H2 ⟨tb,chs,l2,cs,y5,y6,y7,y8,y9,sx,hT2,hc2,hcA,hI,hcl2,hm⟩;walk_at "wp";refine⟨Kk _,λlz hlz=>?_⟩;generalize z0:aD H2 lz _=H3;obtain⟨s3,e3⟩:=dU hlz z0;refine zQ (s3 _ _ hc2) e3 ⟨_,rfl,?_⟩;cases chs with
   |nil=>
    have:cs=[]:=KH.mp hcA.1;subst this;rw[q06 (by simp)];exact qq H3 tb (hT2.up s3) (hI.op (λk hk=>hk.elim) (λk v ho _ _=>nomatch ho)) (sx.then s3)
   |cons ch chs=>
    have hne:cs≠[]:=λe=>by rw[e]at hcA;exact nomatch hcA.1
    rw[q07 (by cases cs with | nil=>exact q0Q rfl hne | cons _ _=>rfl)];rw[etw];generalize hall:ch::chs=all at hcA hI hcl2 hm;have ya0:all≠[]:=λe=>nomatch hall.trans e;rw[q06 ya0]at hm;refine⟨_,λσ' H' h=>h,?_⟩;have hmu:=hI.mu h8;have hmu2:(M+577)*64<=8000000:=by omega
    have hT3:cy H3 d tb:=hT2.up s3;have sx3:=sx.then s3;have hc3:=s3 _ _ hc2;have hcA3:=hcA.mono λb y _ _ (h:bu H2 b y)=>h.up s3;walk_at "n";refine⟨Kk _,λlw hlw=>h1 _ _ ?_⟩;clear h1;have s4:=ak (o:=.lst []) hlw;have e4:aD H3 lw (.lst []) lw=some (.lst []):=af;have hl2w:l2≠lw:=aI hc3 hlw;have hlw0:∀o,H lw=some o->lw=d:=λo h=>by
     by_cases e:lw=d
     ·exact e
     ·have:=sx3 lw o e h
      rw[hlw]at this;cases this
    have hlwd:lw≠d:=λe=>by
     rw[e]at hlw;rw[show H3 d=_ from hT3]at hlw;cases hlw
    generalize aD H3 lw (.lst [])=H4 at s4 e4 ⊢;walk_at "n";refine⟨⟨_,aN.of (s4 _ _ hc3)⟩,?_⟩;refine bQ (xs:=cs.map V.ref) (λi σ H5=>He trs rs q ns M L0 tb0 tb all lr lt ln d l2 lw cs H H5 i σ) ?_ (λi σ H5 _ h=>by cases h with | mk _ _ _ _ _ _ _ h=>exact aN.of h.l) ?_ ?_
    ·exact .mk tb [] [] _ _ _ _ ⟨sx3.then s4,s4 _ _ hc3,hcA3.mono λb y _ _ h=>h.up s4,hT3.up s4,e4,aS.nil,hI.op (λk hk=>hk.elim id λz=>nomatch z) (λk v ho no _=>q0Q (.inl ho) no),Kj _⟩
    ·rintro i x σ H5 hx ⟨tb5,ws,lws,z5,z7,z8,z9,h5⟩
     rw[J1]at hx;obtain⟨cb,hcb,rfl⟩:=Kn.mp hx;have hi:=(JX.mp hcb).1;obtain⟨k,hk,hkb⟩:=h5.cA.get hcb;have kH:=(JX.mp hk).1;have hdr:all.drop i=k::all.drop (i+1):=by
      rw[q0T kH];rw[JW kH]at hk;cases hk;rfl
     obtain⟨hkC,v,hv⟩:=h5.I.opk k (.inl (by rw[hdr];exact q0B ..));obtain⟨t1,ht1,n1,hn1,ek⟩:=jI.mp hkC;obtain⟨t,hti,hfirst⟩:=uq (z:=tx k.1) (J2 (show(eZ q)[t1]?=some (tx k.1) by rw[zI ht1,ek]));obtain⟨ht,ezt⟩:=Ef hti;have ekt:k.1=bC (turned q t):=dB ezt;have kp5:=h5.sx.kp hT;walk_at "wp";refine⟨_,dt.of hkb,rfl,_,_,rfl,_,_,rfl,rfl,⟨_,aN.of (kp5.lst hlr)⟩,?_⟩;refine bQ (xs:=as.map V.ref) (λj σ H6=>G_ trs rs q ns M L0 tb0 tb all lr lt ln d l2 lw cs H i t k v H6 j σ) (.mk tb5 ws lws _ _ h5 hv (λr hr=>nomatch hr)) (λj σ H6 _ h=>by cases h with | mk _ _ _ _ _ h=>exact aN.of ((h.sx.kp hT).lst hlr)) ?_ ?_
     ·rintro j x σ H6 hx ⟨tb6,ws6,lws6,y8,y9,⟨sx6,hl6,hcA6,hT6,hw6,hwA6,hI6,hm6⟩,hv6,hs6⟩
      rw[J1]at hx;obtain⟨ra,hra,rfl⟩:=Kn.mp hx;have hj:=(JX.mp hra).1;obtain⟨r,hr⟩:∃r,trs[j]?=some r:=⟨_,JW (by rw[<- hrs.1];exact hj)⟩;obtain⟨r3,rk3⟩:=hR r (J2 hr);have kp6:=sx6.kp hT;obtain⟨rdx,rl,hrb,_⟩:=(hrs.kp kp6).2 j ra r hra hr;rw[rk3]at hrb;have hrb':H6 ra=some (.ins R.ct rdx (Du r.2.n r.2.c rl r.2.o1 r.2.t)):=hrb;have hu8:r.2.t.toNat<8:=by have:=r3.t0;have:=r3.t7;omega
      have hat:=gL ht hu8;refine aq λN1 h1=>?_;have hlt6:H6 lt=some (.lst ((eZ q).map V.str)):=kp6.lst hlt;walk_at "wp";refine⟨.inl ⟨rfl,_,aN.of hlt6⟩,eZ q,hlt6,t,hti,hfirst,_,_,_,hrb',rk.i3.cl,rk.a3.2.2.2.2,_,rfl,t,r.2.t.toNat,by rw[KR r3.t0],ht,hu8,(eZ q).map V.str,_,rfl,aN.of hlt6,_,bx (by rw[J1,zI hat];rfl),_,_,_,hrb',rk.i3.cl,rk.a3.1,_,rfl,au (by decide),λtp htp=>h1 _ _ ?_⟩;clear h1;have s7:=ak (o:=.tup [V.str (tx (bC (turned q (after t r.2.t.toNat)))),V.str (tx r.2.n)]) htp;have hk7:bu (aD H6 tp (.tup [V.str (tx (bC (turned q (after t r.2.t.toNat)))),V.str (tx r.2.n)])) tp (gB q r t):=af;change ug _ _ _ _ _ (aD H6 tp (.tup [V.str (tx (bC (turned q (after t r.2.t.toNat)))),V.str (tx r.2.n)]));generalize aD H6 tp (.tup [V.str (tx (bC (turned q (after t r.2.t.toNat)))),V.str (tx r.2.n)])=H7 at s7 hk7 ⊢;have hT7:=hT6.up s7;have hrb7:=s7 _ _ hrb';walk_at "wp";have htk:trs.take (j+1)=trs.take j++[r]:=by rw[q0E,hr];rfl
      have hwA7:=hwA6.mono λb y _ _ (h:bu H6 b y)=>h.up s7;have hcA7:=hcA6.mono λb y _ _ (h:bu H6 b y)=>h.up s7;refine⟨_,_,_,hrb7,rk.i3.cl,rk.a3.2.2.2.1,_,rfl,by simp[yD],?_⟩
      by_cases e:r.2.o1=k.2
      ·rw[q07 (by rw[e])]
       refine⟨au (by decide),λtq htq=>?_⟩;generalize z0:aD H7 tq _=H8;obtain⟨s8,(hk8:bu H8 tq k)⟩:=dU htq z0;have hT8:cy H8 d tb6:=hT7.up s8;have hg8:=hT8.told.get hk8;rw[hv6]at hg8;have h64:=hI6.len64 h8;have ek2:(bC (turned q t),r.2.o1)=k:=by rw[<- ekt,e]
       obtain⟨hI9,hm9⟩:=hI6.low hq a0 c0 hO h8 r3 ht (v:=v) (by rw[ek2];exact hkC) (by rw[ek2];exact hv6);refine⟨_,hg8,_,_,_,s8 _ _ hrb7,rk.i3.cl,rk.a3.2.1,_,rfl,v,rfl,r.2.c,rfl,d,tp,tb6,gB q r t,v+r.2.c,rfl,hT8,hk7.up s8,by have:=q0W;omega,λH9 hT9 sx9=>⟨_,rfl,?_⟩⟩;have kp9:=sx9.kp hT8;have hv9:aM (dH tb6 (gB q r t) (v+r.2.c)) k=some v:=by
        rw[ja]
        split
        ·rename_i hc
         obtain⟨hc1,hc2⟩:=hc;unfold gY at hc2;rw[<- hc1,hv6]at hc2;have h3:v+r.2.c<v:=by simpa using hc2
         have:=r3.c1;omega
        ·exact hv6
       have hs9:∀r'∈trs.take (j+1),r'.2.o1=k.2->∃v',v'<=v+r'.2.c/\aM (dH tb6 (gB q r t) (v+r.2.c)) (gB q r' t)=some v':=by
        intro r' hr' e';rw[htk]at hr';rcases J'.mp hr' with hr' | hr'
        ·obtain⟨v1,l1,e1⟩:=hs6 r' hr' e'
         obtain⟨v2,l2,e2⟩:=wd tb6 (gB q r t) (v+r.2.c) _ _ e1;exact⟨v2,Int.le_trans l2 l1,e2⟩
        ·rw[J0.mp hr']
         exact xO _ _ _
       have sx9':=(sx6.then (s7.trans s8)).trans sx9;have hl9:=kp9.lst (s8 _ _ (s7 _ _ hl6));have hw9:=kp9.lst (s8 _ _ (s7 _ _ hw6));have hcA9:=hcA7.mono λb y _ _ (h:bu H7 b y)=>(h.up s8).kp kp9;have hwA9:=hwA7.mono λb y _ _ (h:bu H7 b y)=>(h.up s8).kp kp9;have hk9:=(hk7.up s8).kp kp9;cases hlb:gY tb6 (gB q r t) (v+r.2.c) with
       |false=>
        rw[hlb]at hI9 hm9;rw[q06 (by simp)];refine .mk _ ws6 lws6 _ _ ⟨sx9',hl9,hcA9,hT9,hw9,hwA9,hI9.op (λx hx=>.inl hx) (λx w ho no _=>?_),by simp at hm9;omega⟩ hv9 hs9;exact q0Q (ho.elim id λz=>nomatch z.1) no
       |true=>
        rw[hlb]at hI9 hm9;rw[q07 rfl];have hwl:=hwA6.1;simp only[q07]at hm9;refine⟨.inl ⟨rfl,_,aN.of hw9⟩,_,hw9,by rw[JZ];exact zn ⋯,.mk _ (ws6++[tp]) (lws6++[gB q r t]) _ _ ⟨λb o hb h=>?_,?_,?_,?_,?_,(hwA9.mono λb y _ _ h=>h.put hw9).snoc (hk9.put hw9),hI9.op (λx hx=>?_) (λx w ho no _=>?_),?_⟩ hv9 hs9⟩
        ·rw[ar (show b≠lw from λz=>hb (z.trans (hlw0 o (z▸h))))];exact sx9' b o hb h
        ·rw[ar hl2w];exact hl9
        ·exact hcA9.mono λb y _ _ h=>h.put hw9
        ·show aD H9 lw _ d=_
         rw[ar (Ne.symm hlwd)];exact hT9
        ·rw[af,J_];rfl
        ·rcases hx with hx | hx
         ·exact .inl (.inl hx)
         ·rcases J'.mp hx with hx | hx
          ·exact .inl (.inr hx)
          ·exact .inr ⟨rfl,J0.mp hx⟩
        ·refine q0Q ?_ no
         rcases ho with(ho | ho) | ho
         ·exact .inl ho
         ·exact .inr (q0D _ ho)
         ·exact .inr (q0C _ (J0.mpr ho.2))
        ·rw[Ki,q0Z];omega
      ·rw[q06 (λh=>e (dB (by injection h)))]
       refine .mk tb6 ws6 lws6 _ _ ⟨sx6.then s7,s7 _ _ hl6,hcA7,hT7,s7 _ _ hw6,hwA7,hI6,hm6⟩ hv6 λr' hr' e'=>?_;rw[htk]at hr';rcases J'.mp hr' with hr' | hr'
       ·exact hs6 r' hr' e'
       ·rw[J0.mp hr']at e'
        exact q0Q e' e
     ·rintro σ H6 ⟨tb6,ws6,lws6,y8,y9,h6,hv6,hs6⟩
      rw[JZ,hrs.1,Kz]at hs6;refine .mk tb6 ws6 lws6 _ _ _ _ ⟨h6.sx,h6.l,h6.cA,h6.T,h6.w,h6.wA,h6.I.op (λx hx=>hx.elim (λh=>.inl (by rw[hdr];exact Kc _ h)) .inr) (λx w ho no e=>?_),h6.m⟩;have ex:x=k:=by
       rcases ho with ho | ho
       ·rw[hdr]at ho
        rcases Kb.mp ho with ho | ho
        ·exact ho
        ·exact q0Q (.inl ho) no
       ·exact q0Q (.inr ho) no
      subst ex;rw[hv6]at e;cases e;intro r hr e1 t' ht' e2;obtain⟨v',l',e'⟩:=hs6 r hr e1;have u8:r.2.t.toNat<8:=by have:=(hR r hr).1.t0;have:=(hR r hr).1.t7;omega
      refine⟨v',l',?_⟩;have et:turned q t'=turned q t:=(hO t' ht').inj (hO t ht) (by rw[<- e2,<- ekt]);unfold gB at e' ⊢;rw[<- bX hq a0 c0 ht' u8,et,bX hq a0 c0 ht u8];exact e'
    ·rintro σ H5 ⟨tb5,ws,lws,z5,z7,z8,z9,⟨sx5,hl5,hcA5,hT5,hw5,hwA,hI5,hm5⟩⟩
     refine h1 _ _ ?_;walk_at "wp";rw[JZ,hcA5.1,List.drop_length]at hI5;have hI9:=hI5.op (op':=λk=>k∈lws) (λk hk=>.inr hk) (λk v ho no _=>ho.elim (λz=>nomatch z) λz=>q0Q z no);refine⟨_,?_,.mk tb5 lws lw ws _ _ _ _ _ sx5 hT5 hw5 hwA hI9 ⋯ rfl⟩;cases lws with
     |nil=>rw[q07 rfl];simp at hm5;omega
     |cons _ _=>rw[q06 (by simp)];simp at hm5;omega
theorem ny{R:RC}{H:Hp}:∀{as:K3} {rs:Yaa},bI R H as rs->∃tas:List Addr,((as.zip rs).filterMap λx=>if x.2.1=3 then some (V.ref x.1) else none)=tas.map V.ref/\bI R H tas (ot rs)
 | [],[],h=>⟨[],rfl,h⟩
 | [],_::_,h=>nomatch h.1
 |_::_,[],h=>nomatch h.1
 |a::as,r::rs,h=>by
  have h2:bI R H as rs:=⟨Nat.succ.inj h.1,λi b y e1 e2=>h.2 (i+1) b y e1 e2⟩;obtain⟨tas,e,ht⟩:=ny h2;rw[List.zip_cons_cons,q0U]
  by_cases h3:r.1=3
  ·refine⟨a::tas,by simp only[q07 h3];rw[e];rfl,?_⟩
   have et:ot (r::rs)=r::ot rs:=by unfold ot;rw[List.filter_cons,q07 (by simpa using h3)]
   rw[et];refine⟨by rw[J9,J9,ht.1],λi b y e1 e2=>?_⟩;cases i with
   |zero=>
    rw[List.getElem?_cons_zero]at e1 e2;cases e1;cases e2
    exact h.2 0 _ _ rfl rfl
   |succ i=>exact ht.2 i b y e1 e2
  ·refine⟨tas,by simp only[q06 h3];exact e,?_⟩
   have et:ot (r::rs)=ot rs:=by unfold ot;rw[List.filter_cons,q06 (by simpa using h3)]
   rw[et];exact ht
theorem qi:∀{as:K3} {rs:Yaa} (k:Nat),as.length=rs.length->(((as.zip rs).zipIdx k).filterMap λx=>if x.1.2.1=3 then none else some (V.int (x.2:Int)))=wV ((rs.zipIdx k).filterMap λx=>if x.1.1=3 then none else some x.2)
 | [],[],_,_=>rfl
 | [],_::_,_,h=>nomatch h
 |_::_,[],_,h=>nomatch h
 |a::as,r::rs,k,h=>by
  have ih:=qi (as:=as) (rs:=rs) (k+1) (Nat.succ.inj h);rw[List.zip_cons_cons,List.zipIdx_cons,List.zipIdx_cons,q0U,q0U]
  by_cases h3:r.1=3
  ·simp only[q07 h3];exact ih
  ·simp only[q06 h3];rw[ih];rfl
abbrev dW:Stmt:=fP 51
inductive gl(R:RC)(CG:Addr)(vs:List V)(H:Hp)(Q:VK)(_E:XK):Prop
 |mk (g dx a d:Addr) (sg st:K0) (as:K3) (rs:Yaa) (nms:List (List Nat)) (p q:aO) (r c:Nat) (dn:K7) (tb:Tb) (_:vs=[.ref g,.ref a,.ref d]) (_:dF R H CG dx g sg st as rs) (_:(ci (tx st) rs).map (·.1)=nms.map tx) (_:ke rs nms p r c) (_:sW rs p r c dn q) (_:ES rs nms p r c dn tb) (_:H a=some (.lst (ao q))) (_:cy H d tb) (_:tb.length<=9900000) (_:∀l H' tb',H' l=some (.lst ((eZ q).map V.str))->cy H' d tb'->(∀dn',(∀z,z∈dn'↔z∈dn\/∃t,t<8/\z=tx (bC (turned q t)))->ES rs nms p r c dn' tb')->tb'.length<=tb.length+1216->bh d H H'->Q (.ref l) H')
theorem kB:aE ["grammar","picture","told","turning","putting","texts","t","cuts"] ["grammar","picture","told"] (av dW):=by walk_at "c"
theorem km{R:RC}{f CG CC:Addr}{fd:K5}(F:dr K "enter_turnings" "enter_turnings" dW f fd)(nb:NB mg)(rk:lI K R)(rk4:BF K R)(cc:jn K CC)(nc:DP K CC){tkT:Tok}(yag:mg "TURNINGS"=some (.int 8 tkT))(zxa:mg "TurnRule"=some (.ref R.ct))(yak:jk P w K mg base bD 1 CG "rules" ["self"] (gu R CG))(yaS:jk P w K mg base bD 1 CG "names" ["self"] (gt R CG))(yaJ:lg P w K mg base bD 3 "Cuts" CC ["self","picture"] (il K))(zla:dG P w K mg base bD 3 "turned" ["picture","t"] (i8 K))(yaC:dG P w K mg base bD 7 "put_together" ["grammar","numbers","cuts","told"] (iq R CG CC))(yav:dG P w K mg base bD 2 "turn_about" ["rules","texts","names","told"] (jw R)):br P w K mg base bD 8 f fd ["grammar","picture","told"] (gl R CG):=by
 have sc:=kB;walk_at "f"
 ·obtain⟨g,dx,a,d,sg,st,as,l,f8,p,q,r,c,dn,tb,rfl,hG,g3,m,hN,hS,ha,hT,htl,qq⟩:=h
  have hu:=hr.units;refine⟨_,(ae (dS (i:=3) ["rule"] [] sc.nd rfl (Or.inl rfl) rfl  rfl (bE.of (by kernel_rfl)) (by kernel_rfl) (bi (oJ yak (hr.mono (by decide)) aJ (am 0)))
    (λ_ _ _ _=>(ay (i:=0) (by show(["rule"]:List Str).Nodup;decide +kernel) rfl (Or.inl rfl))) (λ_ _ _ _=>(kg (eS (aA (gx (K:=K) rfl) rfl nb.isinstance b_ (ac (am 0) (ac (di (v:=.ref _) rfl zxa rfl) ad))) λ_=>rfl))) (λ_ _ _ _=>(am 0)))
   (ae (dS (i:=4) ["k","rule"] [] sc.nd rfl (Or.inl rfl) rfl  rfl (bE.of (by kernel_rfl)) (by kernel_rfl) (rj rfl nb.enumerate (ac (oJ yak (hr.mono (by decide)) aJ (am 0)) ad))
    (λ_ _ _ _=>(mR (K:=K) (n:=2) rfl rfl (bf (ay (i:=0) (by show(["k","rule"]:List Str).Nodup;decide +kernel) rfl (Or.inl rfl)) (bf (ay (i:=1) (by show(["k","rule"]:List Str).Nodup;decide +kernel) rfl (Or.inl rfl)) dQ)))) (λ_ _ _ _=>(kg (fz (eS (aA (gx (K:=K) rfl) rfl nb.isinstance b_ (ac (am 1) (ac (di (v:=.ref _) rfl zxa rfl) ad))) λ_=>rfl)))) (λ_ _ _ _=>(am 0)))
   (ae (q01 5 sc.nd (bz ad))
   (ae (bg PassesOwn.never rfl (cn rfl nb.range (ac (di (v:=.int 8) rfl yag ⟨_,rfl⟩) ad)) (q02 6 sc.nd)
   (ae (q01 7 sc.nd (i7 yaJ (hr.mono (by decide)) rfl aJ (ac (q00 zla hr (ac (am 1) (ac (am 6) ad))) ad)))
   (ae (bo (q00 yaC hr (ac (am 0) (ac (am 4) (ac (am 7) (ac (am 2) ad))))))
   (ag (bo (q03 (am 5) (ac (cC (am 7) rfl) ad)))))))
   (ae (bo (q00 yav hr (ac (am 3) (ac (am 5) (ac (oJ yaS (hr.mono (by decide)) aJ (am 0)) (ac (am 2) ad))))))
   (ag (aK (am 5)))))))),?_⟩
  obtain⟨lk,pn,nt,d9,hgk,z,hgN,hgm⟩:=id hG;have d6:∀x∈l,x.1<4:=λx G=>(m.gd x G).k4;have g2:=m.r24;have d1:=z.1;have c2:(as.zip l).length<=1000000:=by rw[q0N];omega
  walk_at "n";refine⟨_,_,d9,rfl,g,dx,sg,st,as,l,rfl,hG,λl1 H1 g6 e1 s1=>?_⟩;refine⟨l1,rfl,⟨_,aN.of e1⟩,?_⟩;refine c7 (as:=as.zip l) (emb:=λx=>V.ref x.1) (f:=λx=>if x.2.1=3 then some (V.ref x.1) else none) (λσ=>∃x,σ=[x]) ⟨_,rfl⟩ (λH2 O=>by rw[z.zip.1];exact aN.of (O _ _ e1)) c2 ?_ ?_
  ·rintro j x G σ H2 M1 M0 ⟨x0,rfl⟩ O k1 k0
   have D:=J2 G;obtain⟨f7,rl,a4,_⟩:=(((z.zip.2.2 x D).up s1).up O);have a3:x.2.1<4:=d6 x.2 (by rw[<- z.zip.2.1];exact KI.mpr ⟨x,D,rfl⟩);walk_at "wp";refine⟨_,(rk.icls x.2.1).ty a4,_,rk4.kit x.2.1 3 a3 (by decide),?_⟩
   by_cases M:x.2.1=3
   ·rw[q07 (by simpa using M)]
    exact k1 _ _ _ (by rw[q07 M]) O ⟨_,rfl⟩
   ·rw[q06 (by simpa using M)]
    exact k0 _ _ (by rw[q06 M]) O ⟨_,rfl⟩
  ·intro H2 O l2 d5
   obtain⟨f6,f3,g0⟩:=ny z;rw[f3];refine h1 _ _ ?_;clear h1;generalize T:aD H2 l2 _=H3;obtain⟨s3,e3⟩:=dU d5 T;have sA:=s1.trans (O.trans s3);walk_at "n";have f0:=hG.up sA;refine⟨_,_,sA _ _ d9,rfl,g,dx,sg,st,as,l,rfl,f0,λl4 H4 g5 e4 s4=>?_⟩;refine⟨l4,rfl,_,aN.of e4,?_⟩;have sB:=sA.trans s4;refine vU (as:=as.zip l) (emb:=λx=>V.ref x.1) (f:=λi x=>if x.2.1=3 then none else some (V.int (i:Int))) (λσ=>∃x y,σ=[x,y]) ⟨_,_,rfl⟩ (λH5 J=>by rw[z.zip.1];exact aN.of (J _ _ e4)) c2 ?_ ?_
   ·rintro j x G σ H5 tp M1 M0 ⟨x0,x1,rfl⟩ J f9 k1 k0
    have D:=J2 G;generalize T:aD H5 tp _=H6;obtain⟨Z,e6⟩:=dU f9 T;obtain⟨f7,rl,a4,_⟩:=((((z.zip.2.2 x D).up sB).up J).up Z);have a3:x.2.1<4:=d6 x.2 (by rw[<- z.zip.2.1];exact KI.mpr ⟨x,D,rfl⟩);walk_at "wp";refine⟨_,dt.of e6,rfl,_,_,rfl,_,_,rfl,rfl,_,(rk.icls x.2.1).ty a4,_,rk4.kit x.2.1 3 a3 (by decide),?_⟩
    by_cases M:x.2.1=3
    ·rw[q06 (by simpa using M)]
     exact k0 _ _ (by rw[q07 M]) (J.trans Z) ⟨_,_,rfl⟩
    ·rw[q07 (by simpa using M)]
     exact k1 _ _ _ (by rw[q06 M]) (J.trans Z) ⟨_,_,rfl⟩
   ·intro H5 J l5 d4
    rw[show((as.zip l).zipIdx.filterMap λx=>if x.1.2.1=3 then none else some (V.int (x.2:Int)))=wV (eN l) from qi 0 d1];refine h1 _ _ ?_;clear h1;generalize T:aD H5 l5 _=H6;obtain⟨Z,e6⟩:=dU d4 T;have sC:=sB.trans (J.trans Z);have h9:=(s4.trans (J.trans Z)) _ _ e3;have c9:=g0.up sC;have e9:=hG.up sC;have h2:=sC _ _ ha;have B:cy H6 d tb:=hT.up sC;clear Z d4 J s4 e4 g5 sB f0 sA s3 e3 d5 O s1 e1 g6;walk_at "n";refine⟨Kk _,λl7 I=>h1 _ _ ?_⟩;clear h1;generalize T:aD H6 l7 _=H7;obtain⟨s7,e7⟩:=dU I T;walk_at "n";rw[show Int.toNat 8=8 from rfl];obtain⟨a0,b0,k⟩:=si m.hp m.r6 m.c6 hN.sq;have e2:=hS.pta m hN;have hpn:(eN l).length<=24:=by
     unfold eN;refine Ks (List.length_filterMap_le _ _) ?_;rw[List.length_zipIdx];exact g2
    have d3:l7≠d:=λe=>by
     rw[e]at I;rw[show H6 d=_ from B]at I;cases I
    refine⟨by decide,cr (lo:=0) (n:=8) (λt σ H8=>bh d H6 H8/\cy H8 d (pta l (eN l) q tb t)/\H8 l7=some (.lst (((List.range t).map λu=>tx (bC (turned q u))).map V.str))/\∃x6 x7,σ=[some (V.ref g),some (V.ref a),some (V.ref d),some (V.ref l2),some (V.ref l5),some (V.ref l7),x6,x7]) ⟨bh.of s7,B.up s7,e7,_,_,rfl⟩ ?_ ?_⟩
    ·rintro t σ H8 ht ⟨C,L,e8,x6,x7,rfl⟩
     have a2:=C.kp B;have g1:=hN.sq.turned m.hp ht;obtain⟨a1,b1,f1⟩:=si m.hp m.r6 m.c6 g1;have:=k.r6;have:=k.c6;walk_at "n";refine⟨a,q,a0,b0,t,by simp,aN.of (a2.lst h2),k.rc,k.r0,k.c0,⋯,⋯,ht,λlq H9 hlq h7 Y=>?_⟩;intro x a5 G g9 g4;have b3:aB H9 (aD (aD H9 a5 (.own x)) x (.ins CC a5 [])):=(ak g9).trans (ak (by rw[ar (Ne.symm g4)];exact G));refine⟨x,CC,a5,lq,turned q t,a1,b1,rfl,af,cc.cl,nc,b3 _ _ h7,f1,λH3 hC sx=>⟨rfl,h1 _ _ ?_⟩⟩;clear h1;have s3:aB H9 H3:=λy u e=>sx y u (aI e G) (b3 y u e);have U:=Y.trans s3;have e0:cy H3 d (pta l (eN l) q tb t):=L.up U;have a9:=C.then U;have c1:=a9.kp B;have d2:=(e2 t ⋯).len;walk_at "n";refine⟨g,dx,l5,x,d,sg,st,as,l,eN l,turned q t,a1,b1,pta l (eN l) q tb t,rfl,e9.kp c1,m.gd,c1.lst e6,λn hn=>(let ⟨r',e',_⟩:=kj.mp hn;(JX.mp e').1),⋯,hC,f1,e0,?_,λH4 h5 a8=>h1 _ _ ?_⟩
     ·have:6*(eN l).length*t<=6*24*8:=Nat.mul_le_mul ⋯ ⋯
      omega
     clear h1;have b6:=a8.kp e0;obtain⟨dxc,lp,lb,la,h0,_⟩:=hC.kp b6;have f4:=b6.lst (U _ _ e8);walk_at "wp";refine⟨.inl ⟨rfl,_,aN.of f4⟩,_,_,_,h0,cc.cl,nc.2.1,_,rfl,_,f4,by rw[JZ,JZ,q0J];exact aX ⋯,λb o hb h=>?_,?_,?_⟩
     ·rw[ar (aI h I)];exact(a9.trans a8) b o hb h
     ·show aD H4 l7 _ d=_
      rw[ar (Ne.symm d3)];exact h5
     ·rw[af,q0M,J_,J_];rfl
    ·rintro σ H8 ⟨C,L,e8,x6,x7,rfl⟩
     refine h1 _ _ ?_;clear h1;walk_at "wp";have a2:=C.kp B;have e5:=e9.kp a2;obtain⟨lk',pn',nt',d7,_⟩:=id e5;have a6:=e2 8 (Kj _);have d2:=a6.len;have hlen2:6*(eN l).length*8<=6*24*8:=Nat.mul_le_mul ⋯ ⋯;have h4:=ES.start m hN hS a6;have hcell:bG q<=6*6:=by
      unfold bG;rw[k.rc.1,bc k.rc k.r0];exact Nat.mul_le_mul k.r6 k.c6
     refine⟨_,_,d7,rfl,g,dx,sg,st,as,l,rfl,e5,λln H9 hln h8 Y=>?_⟩;have a7:=C.then Y;have b4:=a7.kp B;refine⟨l2,l7,ln,d,f6,ot l,l,q,a0,b0,f8,1170*bG q-1161,(pta l (eN l) q tb 8).length,pta l (eN l) q tb 8,rfl,b4.lst h9,c9.kp b4,Y _ _ e8,?_,L.up Y,k.rc,k.r0,k.c0,λt ht=>eC m.hp m.ns (hN.sq.turned m.hp ht),m.n8,λx G=>⟨m.turn3 G,by simpa using(List.mem_filter.mp G).2⟩,h4,⋯,⋯,λH' f5 h6 S b2=>?_⟩
     ·rw[h8]
      congr 2
      have:=q0R (List.map V.str) g3;rw[Ka,Ka]at this;exact this
     ·have h64:=S.len64 m.n8
      refine qq l7 H' f5 ((b2.kp (L.up Y)).lst (Y _ _ e8)) h6 (λdn' hd=>ES.enter m hN hS a6 S hd) ⋯ ((bh.of sC).trans (a7.trans b2))
structure BI(rs:Yaa)(nms:List (List Nat))(p:aO)(r c:Nat)(tb:Tb):Prop where
 nd:(tb.map (·.1)).Nodup
 key:∀k v,aM tb k=some v->(∃q,bM p r c q/\k.1=bC q)/\k.2∈nms/\Dv rs k v/\1<=v
 clo:∀q,bM p r c q->GW rs (aM tb) q
 len:tb.length<=9900000
theorem BI.min{rs:Yaa}{nms:List (List Nat)}{p:aO}{r c:Nat}{tb:Tb}(E:ke rs nms p r c)(h:BI rs nms p r c tb){q:aO}(hq:bM p r c q){n:K0}{v:Int}(hv:Dv rs (bC q,n) v):∃v',v'<=v/\aM tb (bC q,n)=some v':=
 AE E.hp E.ns (λx hx=>⟨(E.gd x hx).good.t0,(E.gd x hx).good.t7⟩) h.clo hv q hq rfl
def F2(d e:Addr)(H H':Hp):Prop:=∀b o,b≠d->b≠e->H b=some o->H' b=some o
theorem dF.f2{R:RC}{H H':Hp}{C dx a d e:Addr}{sg st:K0}{as:K3}{rs:Yaa}{m:List (List cM×V)}(g:dF R H C dx a sg st as rs)(hd:H d=some (.dT m))(he:H e=some (.dK []))(s:F2 d e H H'):dF R H' C dx a sg st as rs:=by
 obtain⟨u,n,t,h1,h2,q,c,k⟩:=g;have j:∀{b:Addr} {xs:List V},H b=some (.lst xs)->H' b=some (.lst xs):=fun{b xs} h=>s b _ (λz=>by rw[z,hd]at h;cases h) (λz=>by rw[z,he]at h;cases h) h;have o:∀{b C dx:Addr} {fs:List (Str×V)},H b=some (.ins C dx fs)->H' b=some (.ins C dx fs):=fun{b C dx fs} h=>s b _ (λz=>by rw[z,hd]at h;cases h) (λz=>by rw[z,he]at h;cases h) h;refine⟨u,n,t,o h1,j h2,⟨q.1,λi b r G D=>?_⟩,⟨s n _ (λz=>?_) (λz=>?_) c.dict,λx y=>j (c.list x y),c.apart⟩,k⟩
 ·obtain⟨dx,l,w,v⟩:=q.2 i b r G D
  exact⟨dx,l,o w,j v⟩
 ·have h:=c.dict
  rw[z,hd]at h;cases h
 ·have h:=c.dict
  rw[z,he]at h
  injection h with h
  injection h with h
  have B:t=[]:=by
   cases t with
   |nil=>rfl
   |cons x t=>exact nomatch h
  rw[B]at k;have p:=(ky (tx st) rs (tx st)).mpr (.inl rfl);rw[<- k]at p;exact nomatch p
def tR(dn:K7)(zs:K7):List Str:=zs.foldl ThM.addNew dn
theorem j7{z:Str}:∀{zs dn:K7},z∈tR dn zs↔z∈dn\/z∈zs
 | [],dn=>by simp[tR]
 |y::zs,dn=>by
  show z∈tR (ThM.addNew dn y) zs↔_;rw[j7,ThM.mem_addNew,Kb,or_assoc]
theorem nZ:∀(zs dn:K7),(tR dn zs).length<=dn.length+zs.length
 | [],dn=>Kj _
 |y::zs,dn=>by
  have h1:=nZ zs (ThM.addNew dn y);have h2:(ThM.addNew dn y).length<=dn.length+1:=by unfold ThM.addNew;split<;>simp
  show(tR (ThM.addNew dn y) zs).length<=_;rw[J9];omega
theorem uB{q:aO}{z:Str}:z∈eZ q↔∃t,t<8/\z=tx (bC (turned q t)):=by
 unfold eZ;rw[KI]
 constructor
 ·rintro⟨t,a,rfl⟩;exact⟨t,List.mem_range.mp a,rfl⟩
 ·rintro⟨t,a,rfl⟩;exact⟨t,List.mem_range.mpr a,rfl⟩
theorem ES.new{rs:Yaa}{nms:List (List Nat)}{p:aO}{r c:Nat}{dn:K7}{tb:Tb}{qs:List aO}{i:Nat}{q:aO}(E:ke rs nms p r c)(S:ES rs nms p r c dn tb)(hsn:FF p r c qs)(hi:qs[i]?=some q)(hdn:∀j z,j<i->qs[j]?=some z->tx (bC z)∈dn)(hno:tx (bC q)∉dn):sW rs p r c dn q:=by
 have a:=(hsn.1 q).mp (J2 hi);obtain⟨a0,b0,g,e,d,_⟩:=a.rect E.hp;refine⟨a,λt b v=>hno ?_,λn k hc=>?_⟩
 ·have:=S.tur _ (a.turned E.hp b) v (cY t) (jb b)
  rwa [l_ g e d b]at this
 ·obtain⟨j,o⟩:=List.mem_iff_getElem?.mp ((hsn.1 n).mpr k)
  refine hdn j n ?_ o;obtain⟨FD,u⟩:=JX.mp hi;obtain⟨l,m⟩:=JX.mp o;rcases Nat.lt_trichotomy j i with h | h | h
  ·exact h
  ·subst h
   rw[u]at m;subst m;omega
  ·have:=List.pairwise_iff_getElem.mp hsn.2 i j FD l h
   rw[u,m]at this;rcases this with h | ⟨h,_⟩<;>omega
abbrev hJ:Stmt:=fP 50
inductive ju(K:W.Frag)(R:RC)(CG:Addr)(vs:List V)(H:Hp)(Q:VK)(_E:XK):Prop
 |mk (g dx a d e:Addr) (sg st:K0) (as:K3) (rs:Yaa) (nms:List (List Nat)) (p:aO) (r c:Nat) (_:vs=[.ref g,.ref a,.ref d,.ref e]) (_:dF R H CG dx g sg st as rs) (_:(ci (tx st) rs).map (·.1)=nms.map tx) (_:ke rs nms p r c) (_:aN K H a (ao p)) (_:cy H d []) (_:H e=some (.dK [])) (_:∀H' tb,cy H' d tb->BI rs nms p r c tb->F2 d e H H'->Q .non H')
theorem pN:aE ["grammar","picture","told","done","seen","text"] ["grammar","picture","told","done"] (av hJ):=by walk_at "c"
theorem pL{R:RC}{f CG:Addr}{fd:K5}(F:dr K "enter_seen" "enter_seen" hJ f fd)(nb:NB mg)(yax:dG P w K mg base bD 4 "seen_in" ["picture"] (n6 K))(yab:dG P w K mg base bD 1 "shown" ["picture"] (gC K))(yaM:dG P w K mg base bD 8 "enter_turnings" ["grammar","picture","told"] (gl R CG)):br P w K mg base bD 9 f fd ["grammar","picture","told","done"] (ju K R CG):=by
 have sc:=pN;walk_at "f"
 ·obtain⟨g,dx,a,d,e,sg,st,as,rs,a2,p,r,c,rfl,hG,b3,u,c1,hT,he,qq⟩:=h
  have hu:=hr.units;refine⟨_,(ag (bg PassesOwn.never rfl (bi (q00 yax hr (ac (am 1) ad))) (q02 4 sc.nd)
   (ag (bJ (tf (qH (KG (KL (by decide:1<=64) _) hu) (q00 yab hr (ac (am 4) ad)) (am 3)) (by with_unfolding_all rfl))
   (ag (bg PassesOwn.never rfl (bi (q00 yaM hr (ac (am 0) (ac (am 4) (ac (am 2) ad))))) (q02 5 sc.nd)
   (ag (re (KG (KL (by decide:1<=64) _) hu) (am 3) (am 5) gM rfl))))
   aV)))),?_⟩
  walk_at "wp";refine⟨a,p,r,c,rfl,c1,u.hp,u.r0,u.c0,u.r6,u.c6,u.ns,λH1 l zs s1 hl el hz hnd T hzl=>⟨l,rfl,⟨_,aN.of el⟩,?_⟩⟩;have Y:cy H1 d []:=hT.up s1;have U:=s1 _ _ he;have d1:=hG.up s1;have a8:d≠e:=λz=>by rw[z]at hT;rw[show H e=_ from hT]at he;cases he
  have a9:∀{H':Hp} {b:Addr} {xs:List V},F2 d e H1 H'->H1 b=some (.lst xs)->H' b=some (.lst xs):=fun{H' b xs} s h=>s b _ (λz=>by rw[z,show H1 d=_ from Y]at h;cases h) (λz=>by rw[z,U]at h;cases h) h;refine bQ (xs:=zs.map λz=>V.ref z.1) (λi σ H2=>F2 d e H1 H2/\i<=zs.length/\(∃(tb:Tb) (m:K7),cy H2 d tb/\H2 e=some (.dK (ThM.trueD m))/\ES rs a2 p r c m tb/\(∀j z,j<i->(zs.map (·.2))[j]?=some z->tx (bC z)∈m)/\tb.length<=1216*i/\m.length<=8*i)/\∃x4 O,σ=[some (V.ref g),some (V.ref a),some (V.ref d),some (V.ref e),x4,O]) ?_ (λi σ H2 _ h=>aN.of (a9 h.1 el)) ?_ ?_
  ·refine⟨λb o _ _ h=>h,Kk _,⟨[],[],Y,U,⟨List.nodup_nil,(λk v h=>nomatch h),(λk v h=>nomatch h),(λz h=>nomatch h),(λq _ h=>nomatch h),(λq _ h=>nomatch h),(λq _ h=>nomatch h)⟩,(λj z h=>q0Q h (Nat.not_lt_zero _)),Kj _,Kj _⟩,_,_,rfl⟩
  ·rintro i x σ H2 hx ⟨f2,_,⟨tb,m,J,I,M,n,a5,b4⟩,x4,O,rfl⟩
   rw[J1]at hx;obtain⟨z,S,rfl⟩:=Kn.mp hx;have hi:=(JX.mp S).1;have b2:=J2 S;have a3:=a9 f2 (hz z b2).2;have D:(zs.map (·.2))[i]?=some z.2:=by rw[J1,S];rfl
   have sq:=(T.1 z.2).mp (J2 D);obtain⟨a0,b0,d2⟩:=si u.hp u.r6 u.c6 sq;have a7:tx (bC z.2)∈m->∀j y,j<i+1->(zs.map (·.2))[j]?=some y->tx (bC y)∈m:=λZ j y hj B=>by
    by_cases ej:j=i
    ·subst ej
     rw[D]at B;cases B
     exact Z
    ·exact n j y ⋯ B
   walk_at "wp";refine⟨z.1,z.2,rfl,a3,d2.small,_,.inl ⟨_,.inr (tx (bC z.2)),.inl I,rfl,rfl⟩,?_⟩;rw[ThM.trueD_val]
   by_cases Z:tx (bC z.2)∈m
   ·rw[q06 (by simpa using Z)]
    exact⟨f2,hi,tb,J,m,I,M,a7 Z,⋯,⋯⟩
   ·rw[q07 (by simpa using Z)]
    have hN:=M.new u T D n Z;refine⟨g,dx,z.1,d,sg,st,as,rs,a2,p,z.2,r,c,m,tb,rfl,d1.f2 Y U f2,b3,u,hN,M,a3,J,⋯,λl3 H3 b1 L b6 c9 hl3 a1=>⟨l3,rfl,⟨_,aN.of L⟩,?_⟩⟩;have a6:=a1 _ _ (Ne.symm a8) I;have hcl:(eZ z.2).length=8:=by unfold eZ;rw[JZ,q0J]
    refine bQ (xs:=(eZ z.2).map V.str) (λj σ H4=>bh e H3 H4/\j<=8/\H4 e=some (.dK (ThM.trueD (tR m ((eZ z.2).take j))))/\∃O,σ=[some (V.ref g),some (V.ref a),some (V.ref d),some (V.ref e),some (V.ref z.1),O]) ⟨bh.of λ_ _ h=>h,Kk _,a6,_,rfl⟩ (λj σ H4 _ h=>aN.of (h.1 _ _ (λzz=>by rw[zz,a6]at L;cases L) L)) ?_ ?_
    ·rintro j x σ H4 hx ⟨C,_,G,O,rfl⟩
     rw[J1]at hx;obtain⟨y,B,rfl⟩:=Kn.mp hx;have hj:j<8:=by have:=(JX.mp B).1;omega
     have a4:=nZ ((eZ z.2).take j) m;rw[KA]at a4;walk_at "wp";refine⟨_,.inl ⟨_,.inr y,G,rfl,by rw[ThM.trueD_len];exact aX ⋯,rfl⟩,C.put,hj,?_⟩;rw[af,ThM.trueD_put,q0E,B];show _=some (HO.dK (ThM.trueD (List.foldl ThM.addNew m (_++[y]))));rw[List.foldl_append];rfl
    ·rintro σ H4 ⟨C,_,G,O,rfl⟩
     rw[JZ,Kz]at G;have a4:=nZ (eZ z.2) m;have c2:=c9 (tR m (eZ z.2)) λy=>by rw[j7,uB]
     refine⟨λb o h1 h2 h=>C b o h2 (a1 b o h1 (f2 b o h1 h2 h)),hi,⟨b1,C _ _ a8 b6,tR m (eZ z.2),G,c2,λj y hj B=>?_,⋯,⋯⟩,_,_,rfl⟩
     by_cases ej:j=i
     ·subst ej
      rw[D]at B;cases B
      exact j7.mpr (.inr (uB.mpr ⟨0,⋯,rfl⟩))
     ·exact j7.mpr (.inl (n j y ⋯ B))
  ·rintro σ H2 ⟨f2,_,⟨tb,m,J,I,M,n,a5,b4⟩,x4,O,rfl⟩
   have all:∀q,bM p r c q->tx (bC q)∈m:=λq hq=>by
    obtain⟨j,hj⟩:=List.mem_iff_getElem?.mp ((T.1 q).mpr hq);refine n j q ?_ hj;have:=(JX.mp hj).1
    rwa [JZ]at this ⊢
   rw[JZ]at a5;refine qq H2 tb J ⟨M.nd,λk v h=>?_,λq hq=>M.clo q hq (all q hq),⋯⟩ λb o h1 h2 h=>f2 b o h1 h2 (s1 b o h);obtain⟨h1,h2⟩:=M.key k v h;obtain⟨q,h3,h4⟩:=M.don _ h1;exact⟨⟨q,h3,dB h4⟩,h2⟩
abbrev j0:Stmt:=fP 49
inductive ma(K:W.Frag)(R:RC)(CG:Addr)(vs:List V)(H:Hp)(Q:VK)(_E:XK):Prop
 |mk (g dx a:Addr) (sg st:K0) (as:K3) (rs:Yaa) (nms:List (List Nat)) (p:aO) (r c:Nat) (_:vs=[.ref g,.ref a]) (_:dF R H CG dx g sg st as rs) (_:(ci (tx st) rs).map (·.1)=nms.map tx) (_:ke rs nms p r c) (_:aN K H a (ao p)) (_:∀d H' tb,H d=none->cy H' d tb->BI rs nms p r c tb->aB H H'->Q (.ref d) H')
theorem t9:aE ["grammar","picture","told"] ["grammar","picture"] (av j0):=by walk_at "c"
theorem ve{R:RC}{f CG:Addr}{fd:K5}(F:dr K "table_of" "table_of" j0 f fd)(nb:NB mg)(yaQ:dG P w K mg base bD 9 "enter_seen" ["grammar","picture","told","done"] (ju K R CG)):br P w K mg base bD 10 f fd ["grammar","picture"] (ma K R CG):=by
 have sc:=t9;walk_at "f"
 ·obtain⟨g,J,a,y,x,L,z,k,p,r,c,rfl,D,l,G,q,B⟩:=h
  refine⟨_,(ae (q01 2 sc.nd BQ)
   (ae (bo (q00 yaQ hr (ac (am 0) (ac (am 1) (ac (am 2) (ac vf ad))))))
   (ag (aK (am 2))))),?_⟩
  walk_at "wp";intro d n e m;have j:=ak (o:=.dT []) n;have v:cy (aD H d (.dT [])) d []:=af;generalize aD H d (.dT [])=H1 at j v m ⊢;have i:=ak (o:=.dK []) m;have u:aD H1 e (.dK []) e=some (.dK []):=af;generalize aD H1 e (.dK [])=H2 at i u ⊢;refine⟨g,J,a,d,e,y,x,L,z,k,p,r,c,rfl,D.up (j.trans i),l,G,(j.trans i).seq q,v.up i,u,λM tb C I f2=>?_⟩;exact B d M tb n C I λb o h=>f2 b o (aI h n) (aI (j b o h) m) (i b o (j b o h))
abbrev nq:Stmt:=fP 56
inductive i_(K:W.Frag)(vs:List V)(H:Hp)(Q:VK)(_E:XK):Prop
 |mk (a:Addr) (ns:List Int) (k:Nat) (_:vs=[.ref a,.int (k:Int)]) (_:aN K H a (ns.map V.int)) (_:k<=1000) (_:Q (.int (cN ns k)) H)
theorem yz:aE ["_law_script","_law_k","_law_cell_here","_law_mixed"] ["_law_script","_law_k"] (av nq):=by walk_at "c"
theorem yi{f:Addr}{fd:K5}(F:dr K "_law_cell" "_law_cell" nq f fd)(nb:NB mg):br P w K mg base bD 1 f fd ["_law_script","_law_k"] (i_ K):=by
 have sc:=yz;walk_at "f"
 ·obtain⟨a,ns,k,rfl,hS,hk,q⟩:=h
  refine⟨_,(ae (q01 2 sc.nd ai)
   (ae (bJ (aL kn (pv 1) (aA aZ rfl nb.len aW (ac (pv 0) ad)) (aQ _))
   (ag (q01 2 sc.nd (aU xB (pv 0) (pv 1) (λ_ _=>rfl))))
   aV)
   (ae (q01 3 sc.nd (aw a_ (aw dz (aw bO (aw bO (aw a_ (pv 2) ai) (aw dz ai (pv 1))) ai) ai) ai))
   (ag (aK (aw bO (aw dz (aw bd (pv 2) ai) ai) (aw a_ (aw bO (aw dz (pv 3) ai) (pv 1)) ai))))))),?_⟩
  walk_at "wp";refine⟨_,hS,?_⟩;rw[JZ];unfold cN at q
  split
  ·rename_i hlt
   have hlt':k<ns.length:=by omega
   rw[q0A,JW hlt',q0L]at q;refine⟨_,hS,V.int ns[k],bx (by rw[J1,JW hlt'];rfl),?_⟩;walk_at "wp";exact q
  ·rename_i hlt
   rw[q0A,List.getElem?_eq_none ⋯,Option.getD_none]at q;exact q
def vm(d s m:Nat):List Nat:=(List.range (1+m)).map λi=>97+(d+(1+2*s)*i)%26
theorem B_:∀d,d<26->∀s,s<6->∀m,m<4->iI (vm d s m)=true:=by decide +kernel
structure Fb(r:K0):Prop where
 ok:iI r=true
 one:∀c∈r,iw [c]=true
 nd:r.Nodup
 ns:47∉r
def Gd:List Nat->Bool
 | []=>true
 |x::r=>!r.contains x&&Gd r
theorem zO:∀{r:K0},Gd r=true->r.Nodup
 | [],_=>List.nodup_nil
 |x::r,h=>by
  unfold Gd at h;rw[q0O]at h;exact List.nodup_cons.mpr ⟨by simpa using h.1,zO h.2⟩
theorem EZ:∀d,d<26->∀s,s<6->∀m,m<4->((vm d s m).all (λc=>iw [c])&&Gd (vm d s m) && !(vm d s m).contains 47)=true:=by decide +kernel
theorem Ar:∀n,n<26->(Str.ofString "abcdefghijklmnopqrstuvwxyz").cps.toList[n]?=some (97+n):=by decide +kernel
def cQ(r:K0):aO:=r.map λc=>[c]
abbrev kR:Stmt:=fP 59
inductive oa(vs:List V)(H:Hp)(Q:VK)(_E:XK):Prop
 |mk (c:Int) (m:Nat) (_:vs=[.int c,.int (1+(m:Int))]) (_:m<4) (_:∀(l:Addr) (r:K0) (H':Hp),H l=none->H' l=some (.lst (ao (cQ r)))->Fb r->r.length=1+m->aB H H'->Q (.ref l) H')
theorem wz:aE ["_law_cell_here","_law_many","_law_letters","_law_step"] ["_law_cell_here","_law_many"] (av kR):=by walk_at "c"
theorem wm{f:Addr}{fd:K5}(F:dr K "_law_signs" "_law_signs" kR f fd)(nb:NB mg):br P w K mg base bD 1 f fd ["_law_cell_here","_law_many"] oa:=by
 have sc:=wz;walk_at "f"
 ·obtain⟨c,m,rfl,o,q⟩:=h
  refine⟨_,(ae (aH (i:=2) sc.nd rfl (Or.inr rfl) jJ)
   (ae (aH (i:=3) sc.nd rfl (Or.inr rfl) (aw (bj.m0 bO) ai (aw (bj.m1 dz) ai (aw (bj.m1 a_) (aw (bj.m1 bd) (am 0) ai) ai))))
   (ag (aK (bZ ["_law_k"] [2,0,3] rfl (bE.of (by kernel_rfl)) (by kernel_rfl) (cn rfl nb.range (ac (am 1) ad))
    (λ_ _ _ _=>(ay (i:=0) (by show(["_law_k","_law_letters","_law_cell_here","_law_step"]:List Str).Nodup;decide +kernel) rfl (Or.inl rfl))) (λ_ _ _ _=>bW) (λ_ _ _ _=>(aU oF (am 1) (aw (bj.m1 a_) (aw (bj.m0 bO) (aw (bj.m1 a_) (am 2) ai) (aw (bj.m1 dz) (am 3) (am 0))) ai) (λ_ _=>rfl)))))))),?_⟩
  obtain⟨a,g⟩:∃m:Nat,c/26%6=(m:Int):=⟨_,(KR (KP _ ⋯)).symm⟩;obtain⟨d,v⟩:∃m:Nat,c%26=(m:Int):=⟨_,(KR (KP _ ⋯)).symm⟩;have k:a<6:=by omega
  have r:d<26:=by omega
  walk_at "n";refine h1 _ _ ?_;walk_at "nc";rw[g];refine h1 _ _ ?_;clear h1;walk_at "wp";have z:(1+(m:Int)).toNat=1+m:=by omega
  rw[z];refine⟨⋯,⋯,?_⟩;have j:∀i:Nat,(c%26+(1+2*(a:Int))*(i:Int))%26=(((d+(1+2*a)*i)%26:Nat):Int):=λi=>by
   rw[v];push_cast;rfl
  refine f_ (n:=1+m) (f:=λi=>some (V.str ⟨#[97+(d+(1+2*a)*i)%26]⟩)) (λσ=>∃x,σ=[x,some (.str "abcdefghijklmnopqrstuvwxyz"),some (.int c),some (.int (1+2*(a:Int)))]) ⟨_,rfl⟩ ⋯ ?_ ?_
  ·rintro i hi σ C N1 N0 ⟨y,rfl⟩ e u k0
   walk_at "wp";refine⟨.inl ⟨⋯,⋯⟩,by decide,97+(d+(1+2*a)*i)%26,?_,u _ _ _ rfl e ⟨_,rfl⟩⟩;rw[j i];exact bx (Ar _ (Nat.mod_lt _ ⋯))
  ·intro C e l p
   rw[e_];have B:(List.range (1+m)).map (λi=>V.str ⟨#[97+(d+(1+2*a)*i)%26]⟩)=ao (cQ (vm d a m)):=by
    unfold vm ao cQ;rw[Ka,Ka];rfl
   rw[B];have b:=EZ d r a k m o;rw[q0O,q0O]at b;exact q l _ _ (e.free p) af ⟨B_ d r a k m o,KJ.mp b.1.1,zO b.1.2,by simpa using b.2⟩ (by unfold vm;rw[JZ,q0J]) (e.trans (ak p))
theorem oG(r s:K0):tx r++tx s=tx (r++s):=by
 show(⟨r.toArray++s.toArray⟩:Str)=⟨(r++s).toArray⟩;simp
theorem BT:∀n,n<26->(Str.ofString "ABCDEFGHIJKLMNOPQRSTUVWXYZ").cps.toList[n]?=some (65+n):=by decide +kernel
def Cg(c:Nat):Bool:=FY EM c
theorem A5:∀n,n<26->Cg (65+n)=true:=by decide +kernel
theorem Fr(x:Int):∃n:Nat,n<26/\x%26=(n:Int):=⟨(x%26).toNat,⋯,⋯⟩
theorem rE{r:K0}(h:∀x∈r,Cg x=true)(h1:1<=r.length)(h4:r.length<=4):dD r=true:=by
 have a:r.all (FY EM)=true:=KJ.mpr h;unfold dD kb;rw[a];simp;omega
abbrev kK:Stmt:=fP 58
inductive oo(vs:List V)(H:Hp)(Q:VK)(_E:XK):Prop
 |mk (c:Int) (m:Nat) (_:vs=[.int c,.int (1+(m:Int))]) (_:m<4) (_:∀(l:Addr) (p:aO) (H':Hp),H l=none->H' l=some (.lst (ao p))->p.length=1+m->(∀r∈p,dD r=true)->aB H H'->Q (.ref l) H')
theorem wG:aE ["_law_cell_here","_law_many","_law_letters","_law_start","_law_step","_law_extra","_law_names_here","_law_k","_law_letter"] ["_law_cell_here","_law_many"] (av kK):=by walk_at "c"
theorem vw{f:Addr}{fd:K5}(F:dr K "_law_names" "_law_names" kK f fd)(nb:NB mg):br P w K mg base bD 1 f fd ["_law_cell_here","_law_many"] oo:=by
 have sc:=wG;walk_at "f"
 ·obtain⟨c,m,rfl,m2,q⟩:=h
  refine⟨_,(ae (aH (i:=2) sc.nd rfl (Or.inr rfl) jJ)
   (ae (aH (i:=3) sc.nd rfl (Or.inr rfl) (aw (bj.m1 a_) (aw (bj.m1 bd) (am 0) ai) ai))
   (ae (q01 4 sc.nd (aw (bj.m0 bO) ai (aw (bj.m1 dz) ai (aw (bj.m1 a_) (aw (bj.m1 bd) (am 0) ai) ai))))
   (ae (bJ (aL dm (aw (bj.m1 a_) (aw (bj.m1 bd) (am 0) ai) ai) ai (aQ _))
   (ag (aK (bZ ["_law_k"] [2,3] rfl (bE.of (by kernel_rfl)) (by kernel_rfl) (cn rfl nb.range (ac (am 1) ad))
    (λ_ _ _ _=>(ay (i:=0) (by show(["_law_k","_law_letters","_law_start"]:List Str).Nodup;decide +kernel) rfl (Or.inl rfl))) (λ_ _ _ _=>bW) (λ_ _ _ _=>(aw Df (aU oF (am 1) (am 2) (λ_ _=>rfl)) (aw (bj.m0 bO) ai (am 0)))))))
   aV)
   (ae (q01 5 sc.nd (aU aY (bz (gz (gz (gz (gz ad))))) (aw (bj.m1 a_) (am 0) ai) (λ_ _=>rfl)))
   (ae (q01 6 sc.nd (bz ad))
   (ae (bg PassesOwn.never rfl (cn rfl nb.range (ac (am 1) ad)) (q02 7 sc.nd)
   (ae (q01 8 sc.nd (aU oF (am 2) (aw (bj.m1 a_) (aw (bj.m0 bO) (am 3) (aw (bj.m1 dz) (am 4) (am 7))) ai) (λ_ _=>rfl)))
   (ag (bo (q03 (am 6) (ac (aU aY (bz (ac (aw fO (am 8) (am 5)) (ac (aw fO (am 5) (am 8)) ad))) (aw (bj.m1 a_) (aw (bj.m1 bd) (am 0) ai) ai) (λ_ _=>rfl)) ad))))))
   (ag (aK (am 6)))))))))),?_⟩
  obtain⟨d,d2,hd⟩:=Fr (c/4);obtain⟨s6,T⟩:∃m:Nat,c/104%6=(m:Int):=⟨_,(KR (KP _ ⋯)).symm⟩;walk_at "n";refine h1 _ _ ?_;walk_at "nc";rw[hd];refine h1 _ _ ?_;walk_at "nc";rw[T];refine h1 _ _ ?_;walk_at "nc";refine b9 (λhc=>?_) (λhc=>h1 _ _ ?_)
  ·rw[show(1+(m:Int)).toNat=1+m by omega]
   refine⟨⋯,⋯,?_⟩;refine f_ (n:=1+m) (f:=λi=>some (V.str (tx (List.replicate (1+i) [65+d]).flatten))) (λσ=>∃x,σ=[x,some (.str "ABCDEFGHIJKLMNOPQRSTUVWXYZ"),some (.int (d:Int))]) ⟨_,rfl⟩ ⋯ ?_ ?_
   ·rintro i L σ j N1 N0 ⟨y,rfl⟩ D k1 k0
    walk_at "wp";exact⟨by decide,_,bx (BT d d2),[65+d],rfl,1+i,by push_cast;rfl,⋯,⋯,by simp,k1 _ _ _ rfl D ⟨_,rfl⟩⟩
   ·intro j D l hl
    rw[e_];have e0:(List.range (1+m)).map (λi=>V.str (tx (List.replicate (1+i) [65+d]).flatten))=ao ((List.range (1+m)).map λi=>(List.replicate (1+i) [65+d]).flatten):=by
     unfold ao;rw[Ka];rfl
    rw[e0];refine q l _ _ (D.free hl) af (by rw[JZ,q0J]) (λr hr=>?_) (D.trans (ak hl));obtain⟨i,L,rfl⟩:=KI.mp hr;have L:=List.mem_range.mp L;refine rE (λx a=>?_) (by rw[qV];simp) (by rw[qV];simp;omega);obtain⟨y,hy,a⟩:=List.mem_flatten.mp a;rw[List.eq_of_mem_replicate hy]at a;rw[J0.mp a];exact A5 d d2
  ·walk_at "n"
   refine⟨au (by decide),λp1 U=>?_⟩;generalize M:aD H p1 _=H1;obtain⟨s1,e1⟩:=dU U M;obtain⟨b,a1,v,S⟩:∃b:List Nat,iC [V.str (Str.ofString ""),V.str (Str.ofString "Q"),V.str (Str.ofString "ZA"),V.str (Str.ofString "MMX")] (c%4)=some (.str (tx b))/\(∀x∈b,Cg x=true)/\b.length<=3:=by
    rcases(by omega:c%4=0\/c%4=1\/c%4=2\/c%4=3) with h | h | h | h<;>rw[h]
    ·exact⟨[],rfl,(λx a=>nomatch a),by decide⟩
    ·exact⟨[81],rfl,by decide +kernel,by decide⟩
    ·exact⟨[90,65],rfl,by decide +kernel,by decide⟩
    ·exact⟨[77,77,88],rfl,by decide +kernel,by decide⟩
   refine⟨_,aN.of e1,_,a1,h1 _ _ ?_⟩;walk_at "nc";refine⟨Kk _,λu C=>h1 _ _ ?_⟩;clear h1;have s2:=ak (o:=.lst []) C;have e2:aD H1 u (.lst []) u=some (.lst []):=af;have sA:=s1.trans s2;have e:=s1.free C;generalize aD H1 u (.lst [])=H2 at s2 e2 sA ⊢;walk_at "n";rw[show(1+(m:Int)).toNat=1+m by omega];refine⟨⋯,⋯,?_⟩;refine cr (lo:=0) (n:=1+m) (λi σ j=>aB H j/\(∃p:aO,j u=some (.lst (ao p))/\p.length=i/\∀r∈p,dD r=true)/\∃x y,σ=[some (V.int c),some (V.int (1+(m:Int))),some (V.str (Str.ofString "ABCDEFGHIJKLMNOPQRSTUVWXYZ")),some (V.int (d:Int)),some (V.int (1+2*(s6:Int))),some (V.str (tx b)),some (V.ref u),x,y]) ⟨sA,⟨[],e2,rfl,λr hr=>nomatch hr⟩,_,_,rfl⟩ ?_ ?_
   ·rintro i σ j L ⟨k,⟨p,J,G,O⟩,x,y,rfl⟩
    walk_at "n";obtain⟨n,B,Z⟩:=Fr ((d:Int)+(1+2*(s6:Int))*(i:Int));refine⟨.inr ⟨⋯,⋯⟩,by decide,65+n,by rw[Z];exact bx (BT n B),h1 _ _ ?_⟩;clear h1;change w8 _ _ _ _;generalize hz:(⟨#[65+n]⟩:Str)=z;walk_at "wp";have R:z=tx [65+n]:=hz.symm;subst R;have hl1:(tx [65+n]).length=1:=rfl;have hl2:(tx b).length<=3:=by rw[ax];exact S
    refine⟨.inl ⟨rfl,_,aN.of J⟩,au ⋯,au ⋯,au (by decide),λl3 a0=>?_⟩;generalize M:aD j l3 _=H3;obtain⟨s3,e3⟩:=dU a0 M;obtain⟨I,Y,hn⟩:∃I:List Nat,iC [V.str (tx [65+n]++tx b),V.str (tx b++tx [65+n])] (c/624%2)=some (.str (tx I))/\dD I=true:=by
     have g:∀x∈[65+n],Cg x=true:=λx a=>by rw[J0.mp a];exact A5 n B
     rcases(by omega:c/624%2=0\/c/624%2=1) with h | h<;>rw[h]
     ·exact⟨[65+n]++b,by rw[<- oG];rfl,rE (λx a=>(J'.mp a).elim (g x) (v x)) (by simp) (by simp;omega)⟩
     ·exact⟨b++[65+n],by rw[<- oG];rfl,rE (λx a=>(J'.mp a).elim (v x) (g x)) (by simp) (by simp;omega)⟩
    refine⟨_,aN.of e3,_,Y,_,s3 _ _ J,by rw[aj,G];exact aX ⋯,bK (k.trans s3) e,p++[I],by rw[af,cR],by rw[Ki,G];rfl,λr hr=>?_⟩;rcases J'.mp hr with h | h
    ·exact O r h
    ·rw[J0.mp h];exact hn
   ·rintro σ j ⟨k,⟨p,J,G,O⟩,x,y,rfl⟩
    refine h1 _ _ ?_;walk_at "wp";exact q u p j e J G O k
theorem v8(r:K0):(cQ r).flatten=r:=by
 induction r with
 |nil=>rfl
 |cons c r ih=>show c::(cQ r).flatten=_;rw[ih]
theorem bI.snoc20{R:RC}{H:Hp}{as:K3}{rs:Yaa}{b:Addr}{r:Nat×RV}(h:bI R H as rs)(hb:gm R H r.1 b r.2):bI R H (as++[b]) (rs++[r]):=by
 refine⟨by rw[Ki,Ki,h.1];rfl,λi a x c d=>?_⟩
 by_cases e:i<as.length
 ·rw[Kh e]at c
  rw[Kh (by rw[<- h.1];exact e)]at d;exact h.2 i a x c d
 ·have g:=(JX.mp c).1
  rw[Ki,q0Z]at g;have hh:=h.1;rw[Kg ⋯,show i-as.length=0 by omega]at c;rw[Kg ⋯,show i-rs.length=0 by omega]at d;cases c;cases d
  exact hb
theorem bI.put20{R:RC}{H:Hp}{lr:Addr}{bs:K3}{o:HO}{as:K3}{rs:Yaa}(h:bI R H as rs)(hl:H lr=some (.lst (bs.map V.ref)))(hx:as=[]\/∃b,b∈bs):bI R (aD H lr o) as rs:=by
 refine⟨h.1,λi a r c g=>?_⟩;obtain⟨j,l,h1,h2⟩:=h.2 i a r c g;refine⟨j,l,by rw[ar (λz=>by rw[z,hl]at h1;cases h1)];exact h1,?_⟩;rw[ar (λz=>?_)]
 ·exact h2
 ·rw[z,hl]at h2
  injection h2 with h2
  injection h2 with h2
  rcases hx with hx | ⟨b,d⟩
  ·rw[hx]at c;simp at c
  ·have:V.ref b∈ao (cw r.1 r.2):=by rw[<- h2];exact KI.mpr ⟨b,d,rfl⟩
   unfold ao at this;obtain⟨y,_,e⟩:=KI.mp this;cases e
abbrev iU:Stmt:=fP 65
inductive kF(R:RC)(CG:Addr)(vs:List V)(H:Hp)(Q:VK)(_E:XK):Prop
 |mk (l la:Addr) (r st:K0) (ts:K3) (rs:Yaa) (_:vs=[.ref la,.str (tx st),.ref l]) (_:H la=some (.lst (ao (cQ r)))) (_:cX H l ts rs) (_:(∀r∈rs,lT r)) (_:rs.length<=24) (_:r.length<=4) (_:st.length<=100) (_:nM r st rs=none) (_:∀b db as H',dF R H' CG db b r st as rs->aB H H'->Q (.ref b) H')
theorem rO:aE ["_law_signs_here","_law_start","_law_rules","_law_made","_law_kind","_law_name","_law_cost","_law_one","_law_other"] ["_law_signs_here","_law_start","_law_rules"] (av iU):=by walk_at "c"
theorem sO{R:RC}{f CG:Addr}{fd:K5}(F:dr K "_law_grammar" "_law_grammar" iU f fd)(nb:NB mg)(rk:lI K R)(gk:G5 K CG)
  (zfb:lg P w K mg base bD 4 "CellRule" R.cc ["self","name","cost","sign"] (gX K)) (zNa:lg P w K mg base bD 4 "BesideRule" R.cb ["self","name","cost","one","other"] (dh K))
  (zRa:lg P w K mg base bD 4 "AboveRule" R.ca ["self","name","cost","one","other"] (dh K)) (zgb:lg P w K mg base bD 4 "TurnRule" R.ct ["self","name","cost","part","turning"] (ie K)) (zrb:lg P w K mg base bD 4 "Grammar" CG ["self","signs","start","rules"] (ia K R)):br P w K mg base bD 6 f fd ["_law_signs_here","_law_start","_law_rules"] (kF R CG):=by
 have sc:=rO;walk_at "f"
 ·obtain⟨l,la,r,st,ts,Z,rfl,a8,o,hg,hn,hsg,hst,g0,q⟩:=h
  have hu:=hr.units;refine⟨_,(ae (q01 3 sc.nd (bz ad))
   (ae (bg PassesOwn.never rfl (bi (am 2)) (iT (n:=5) rfl (bf (q02 4 sc.nd) (bf (q02 5 sc.nd) (bf (q02 6 sc.nd) (bf (q02 7 sc.nd) (bf (q02 8 sc.nd) dQ))))))
   (ag (bJ (aL dm (am 4) ai (aQ _))
   (ag (bo (q03 (am 3) (ac (i7 zfb (hr.mono (by decide)) rfl aJ (ac (am 5) (ac (am 6) (ac (am 7) ad)))) ad))))
   (ag (bJ (aL dm (am 4) ai (aQ _))
   (ag (bo (q03 (am 3) (ac (i7 zNa (hr.mono (by decide)) rfl aJ (ac (am 5) (ac (am 6) (ac (am 7) (ac (am 8) ad))))) ad))))
   (ag (bJ (aL dm (am 4) ai (aQ _))
   (ag (bo (q03 (am 3) (ac (i7 zRa (hr.mono (by decide)) rfl aJ (ac (am 5) (ac (am 6) (ac (am 7) (ac (am 8) ad))))) ad))))
   (ag (bo (q03 (am 3) (ac (i7 zgb (hr.mono (by decide)) rfl aJ (ac (am 5) (ac (am 6) (ac (am 7) (ac (am 8) ad))))) ad)))))))))))
   (ag (aK (i7 zrb (hr.mono (by decide)) rfl aJ (ac (@tU _ _ _ _ _ _ _ _ (ac (am 0) ad) rfl rfl) (ac (am 1) (ac (am 3) ad)))))))),?_⟩
  walk_at "n";refine⟨Kk _,λL a4=>h1 _ _ ?_⟩;clear h1;generalize z0:aD H L _=H1;obtain⟨s1,e1⟩:=dU a4 z0;walk_at "n";refine⟨⟨_,aN.of (s1 _ _ o.1)⟩,?_⟩;have a7:=o.2.1;refine bQ (xs:=ts.map V.ref) (λi σ G=>aB H G/\i<=ts.length/\(∃M:List Addr,G L=some (.lst (M.map V.ref))/\bI R G M (Z.take i))/\∃x4 x5 x6 x7 x8,σ=[some (V.ref la),some (V.str (tx st)),some (V.ref l),some (V.ref L),x4,x5,x6,x7,x8]) ⟨s1,Kk _,⟨[],e1,⟨rfl,λi a r e=>by simp at e⟩⟩,_,_,_,_,_,rfl⟩ (λi σ G _ h=>aN.of (h.1 _ _ o.1)) ?_ ?_
  ·rintro i x σ G B ⟨sm,_,⟨M,z,hA⟩,x4,x5,x6,x7,x8,rfl⟩
   rw[J1]at B;obtain⟨t,ht,rfl⟩:=Kn.mp B;have hi:=(JX.mp ht).1;obtain⟨⟨k,v⟩,hr⟩:∃r,Z[i]?=some r:=⟨_,JW ⋯⟩;have a6:=sm _ _ (o.2.2 i t (k,v) ht hr);obtain⟨hk,g,S⟩:=hg _ (J2 hr);have T:=dt.of (K:=K) a6;have g:v.good:=g;have bn:v.n.length<=100000:=by have:=S.n;simp only at this;omega
   have b1:v.o1.length<=100000:=by have:=S.o1;simp only at this;omega
   have b2:v.o2.length<=100000:=by have:=S.o2;simp only at this;omega
   have bs:v.sg.length<=100000:=by have:=S.sg;simp only at this;omega
   have b0:=hA.1;rw[KA]at b0;have a5:Z.take (i+1)=Z.take i++[(k,v)]:=by rw[q0E,hr];rfl
   have fin:∀b d D H2,H2 b=some (.ins (R.at k) d (tH k D v))->H2 D=some (.lst (ao (cw k v)))->D≠L->aB G H2->∃xs,H2 L=some (.lst xs)/\xs.length<sizeLine/\aB H (aD H2 L (.lst (xs++[V.ref b])))/\i+1<=ts.length/\∃M,aD H2 L (.lst (xs++[V.ref b])) L=some (.lst (M.map V.ref))/\bI R (aD H2 L (.lst (xs++[V.ref b]))) M (Z.take (i+1)):=λb d D H2 hb j m s2=>by
    have h2:=s2 _ _ z;refine⟨_,h2,by rw[JZ];exact aX ⋯,bK (sm.trans s2) a4,hi,M++[b],by rw[af,J_];rfl,?_⟩;rw[a5];refine bI.snoc20 ((hA.up s2).put20 h2 ?_) ⟨d,D,by rw[ar (λe=>by rw[e,h2]at hb;cases hb)];exact hb,by rw[ar m];exact j⟩;cases M with
    |nil=>exact .inl rfl
    |cons a M=>exact .inr ⟨a,q0B ..⟩
   have sN:∀{x d:Addr} {C:Addr},G x=none->G d=none->d≠x->∀{D:Addr},aD (aD G d (.own x)) x (.ins C d []) D=none->D≠L:=fun{x d C} B J m {D} j e=>by
    rw[e,ar (aI z B),ar (aI z J),z]at j;cases j
   walk_at "wp";rcases dZ hk with rfl | rfl | rfl | rfl
   ·change dt K G t [.int 0,.str (tx v.n),.int v.c,.str (tx v.sg),.str ""]at T
    refine⟨_,T,rfl,_,_,rfl,_,_,rfl,_,_,rfl,_,_,rfl,_,_,rfl,rfl,rfl,?_⟩;rw[q07 rfl];exact⟨.inl ⟨rfl,_,aN.of z⟩,λx d B J m=>⟨x,R.cc,d,v.n,v.sg,v.c,rfl,af,rk.i0.cl,rk.a0,bn,bs,g.ok 0,λD H2 O j I Y=>⟨rfl,fin x d D H2 Y I (sN B J m j) (i' B J O)⟩⟩⟩
   ·change dt K G t [.int 1,.str (tx v.n),.int v.c,.str (tx v.o1),.str (tx v.o2)]at T
    refine⟨_,T,rfl,_,_,rfl,_,_,rfl,_,_,rfl,_,_,rfl,_,_,rfl,rfl,rfl,?_⟩;rw[q06 (by decide)];refine⟨rfl,?_⟩;rw[q07 rfl];exact⟨.inl ⟨rfl,_,aN.of z⟩,λx d B J m=>⟨x,R.cb,d,v.n,v.o1,v.o2,v.c,rfl,af,rk.i1.cl,rk.a1,bn,b1,b2,g.ok 1,λD H2 O j I Y=>⟨rfl,fin x d D H2 Y I (sN B J m j) (i' B J O)⟩⟩⟩
   ·change dt K G t [.int 2,.str (tx v.n),.int v.c,.str (tx v.o1),.str (tx v.o2)]at T
    refine⟨_,T,rfl,_,_,rfl,_,_,rfl,_,_,rfl,_,_,rfl,_,_,rfl,rfl,rfl,?_⟩;rw[q06 (by decide)];refine⟨rfl,?_⟩;rw[q06 (by decide)];refine⟨rfl,?_⟩;rw[q07 rfl];exact⟨.inl ⟨rfl,_,aN.of z⟩,λx d B J m=>⟨x,R.ca,d,v.n,v.o1,v.o2,v.c,rfl,af,rk.i2.cl,rk.a2,bn,b1,b2,g.ok 2,λD H2 O j I Y=>⟨rfl,fin x d D H2 Y I (sN B J m j) (i' B J O)⟩⟩⟩
   ·change dt K G t [.int 3,.str (tx v.n),.int v.c,.str (tx v.o1),.int v.t]at T
    refine⟨_,T,rfl,_,_,rfl,_,_,rfl,_,_,rfl,_,_,rfl,_,_,rfl,rfl,rfl,?_⟩;rw[q06 (by decide)];refine⟨rfl,?_⟩;rw[q06 (by decide)];refine⟨rfl,?_⟩;rw[q06 (by decide)];exact⟨.inl ⟨rfl,_,aN.of z⟩,λx d B J m=>⟨x,R.ct,d,v.n,v.o1,v.c,v.t,rfl,af,rk.i3.cl,rk.a3,bn,b1,g.ok 3,λD H2 O j I Y=>⟨rfl,fin x d D H2 Y I (sN B J m j) (i' B J O)⟩⟩⟩
  ·rintro σ G ⟨sm,_,⟨M,z,hA⟩,x4,x5,x6,x7,x8,rfl⟩
   refine h1 _ _ ?_;rw[JZ,a7,Kz]at hA;walk_at "wp";refine⟨rfl,(cQ r).map tx,.inl (by rw[<- fA];exact aN.of (sm _ _ a8)),?_,λx d B a9 m=>?_⟩
   ·have h1:=je (p:=cQ r) (n:=1) λy hy=>by
     obtain⟨c,_,rfl⟩:=KI.mp hy;exact Kj _
    have h2:(cQ r).length=r.length:=by unfold cQ;rw[JZ]
    have e0:(Str.ofString "").length=0:=rfl;rw[e0];omega
   ·rw[QL.join_nil,v8]
    have U:aB G (aD (aD G d (.own x)) x (.ins CG d [])):=(ak a9).trans (ak (by rw[ar (Ne.symm m)];exact B));refine⟨x,CG,d,L,r,st,M,Z,rfl,af,gk.cl.cl,gk.na,⋯,⋯,U _ _ z,hA.up U,λr hr=>(hg r hr).k4,⋯,g0,(λH4 lk pn t O gA _ _ _=>⟨rfl,?_⟩)⟩;exact q x d _ H4 gA.f (sm.trans λb u e=>O b u (aI e B) (U b u e))
abbrev nw:Stmt:=fP 66
inductive kZ(K:W.Frag)(vs:List V)(H:Hp)(Q:VK)(_E:XK):Prop
 |mk (a:Addr) (p:aO) (_:vs=[.ref a]) (_:H a=some (.lst (ao p))) (_:c4 p) (_:Q (.str (tx (bC p))) H)
theorem yH:aE ["_law_picture"] ["_law_picture"] (av nw):=by walk_at "c"
theorem yQ{f:Addr}{fd:K5}(F:dr K "_law_text" "_law_text" nw f fd)(nb:NB mg):br P w K mg base bD 1 f fd ["_law_picture"] (kZ K):=by
 have sc:=yH;walk_at "f"
 ·obtain⟨a,p,rfl,c,b,q⟩:=h
  refine⟨_,(ag (aK (@tU _ _ _ _ _ _ _ _ (ac (am 0) ad) rfl rfl))),?_⟩;walk_at "wp";refine⟨rfl,p.map tx,.inl (by rw[<- fA];exact aN.of c),?_,?_⟩
  ·have:=je b.2
   have h1:=b.1;have d:(Str.ofString "/").length=1:=rfl;rw[JZ,d];have h2:p.length*64<=64*64:=Nat.mul_le_mul_right _ h1;omega
  ·rw[xg];exact q
abbrev j3:Stmt:=fP 60
inductive fR(K:W.Frag)(vs:List V)(H:Hp)(Q:VK)(_E:XK):Prop
 |mk (a:Addr) (p:aO) (r c t:Nat) (_:vs=[.ref a,.int (t:Int)]) (_:H a=some (.lst (ao p))) (_:rect p r c) (_:0<r) (_:0<c) (_:r<=64) (_:c<=64) (_:t<8) (_:∀l H',H l=none->H' l=some (.lst (ao (turned p t)))->aB H H'->Q (.ref l) H')
theorem uO:aE ["_law_picture","_law_t","_law_found","_law_k"] ["_law_picture","_law_t"] (av j3):=by walk_at "c"
theorem vb{f:Addr}{fd:K5}(F:dr K "_law_turned" "_law_turned" j3 f fd)(nb:NB mg):br P w K mg base bD 1 f fd ["_law_picture","_law_t"] (fR K):=by
 have sc:=uO;walk_at "f"
 ·obtain⟨a,p,r,c,t,rfl,hS,hp,L,T,J,S,ht,q⟩:=h
  refine⟨_,(ae (aH (i:=2) sc.nd rfl (Or.inr rfl) (cU cI rfl nb.list fq (ac (am 0) ad)))
   (ae (bJ (aL (bj.m0 lY) (am 1) ai (aQ _))
   (ag (aH (i:=2) sc.nd rfl (Or.inr rfl) (bZ ["_law_row"] [] rfl (bE.of (by kernel_rfl)) (by kernel_rfl) (bi (am 2))
    (λ_ _ _ _=>(ay (i:=0) (by show(["_law_row"]:List Str).Nodup;decide +kernel) rfl (Or.inl rfl))) (λ_ _ _ _=>bW) (λ_ _ _ _=>(nJ rfl rfl nb.reversed (ac (am 0) ad))))))
   aV)
   (ae (bg PassesOwn.never rfl (cn rfl nb.range (ac (aw (bj.m1 a_) (am 1) ai) ad)) (q02 3 sc.nd)
   (ag (aH (i:=2) sc.nd rfl (Or.inr rfl) (bZ ["_law_j"] [2] rfl (bE.of (by kernel_rfl)) (by kernel_rfl) (cn rfl nb.range (ac (aA aT rfl nb.len aW (ac (aU aY (am 2) ai (λ_ _=>rfl)) ad)) ad))
    (λ_ _ _ _=>(ay (i:=0) (by show(["_law_j","_law_found"]:List Str).Nodup;decide +kernel) rfl (Or.inr rfl))) (λ_ _ _ _=>bW) (λ_ _ _ _=>(@EA _ K _ _ _ _ _ _ _ rfl (ac (bZ ["_law_row"] [0] rfl (bE.of (by kernel_rfl)) (by kernel_rfl) (Cs (K:=K) rfl rfl nb.reversed (ac (am 1) ad))
    (λ_ _ _ _=>(ay (i:=0) (by show(["_law_row","_law_j"]:List Str).Nodup;decide +kernel) rfl (Or.inl rfl))) (λ_ _ _ _=>bW) (λ_ _ _ _=>(aU oF (am 0) (am 1) (λ_ _=>rfl)))) ad) rfl rfl))))))
   (ag (aK (am 2)))))),?_⟩
  walk_at "n";refine⟨_,.inl (aN.of hS),λl k=>h1 _ _ ?_⟩;clear h1;generalize z0:aD H l _=H1;obtain⟨s1,e1⟩:=dU k z0;refine aq λN2 h2=>?_;have u:∀(z:Addr) (g:aO) (H2:Hp),H z=none->H2 z=some (.lst (ao g))->aB H H2->rect g r c->turned p t=aP (t%4) g->N2 [some (V.ref a),some (V.int (t:Int)),some (V.ref z),none] H2:=by
   intro z g H2 o a3 a0 a1 et;refine h2 _ _ ?_;clear h2;refine aq λN3 h3=>?_;walk_at "wp";refine⟨⋯,⋯,?_⟩;have e4:((t:Int)%4).toNat=t%4:=by omega
   rw[e4];refine cr (lo:=0) (n:=t%4) (λi σ Z=>∃(v:Addr) (x:Option V),σ=[some (V.ref a),some (V.int (t:Int)),some (V.ref v),x]/\H v=none/\Z v=some (.lst (ao (aP i g)))/\aB H Z) ⟨z,_,rfl,o,a3,a0⟩ ?_ ?_
   ·rintro i σ Z hi ⟨v,x,rfl,R,Y,m⟩
    have hq:=cV i a1 L T;obtain⟨r',c',C,g4,g5,g6⟩:∃r' c',rect (aP i g) r' c'/\0<r'/\r'<=64/\c'<=64:=by
     by_cases kH:i%2=0
     ·rw[q07 kH,q07 kH]at hq;exact⟨r,c,hq,L,J,S⟩
     ·rw[q06 kH,q06 kH]at hq;exact⟨c,r,hq,T,S,J⟩
    have M:aP (i+1) g=bv (aP i g):=(cG 1 i g).symm;generalize aP i g=pq at Y C M;obtain⟨a2,d⟩:=cT C g4;walk_at "wp";refine⟨_,aN.of Y,_,bx (j:=0) (ba a2),_,rfl,by rw[ax];exact au ⋯,⋯,by rw[ax];omega,?_⟩;rw[ax,d,J7];refine f_ (n:=c') (f:=λj=>some (V.str (tx (rR pq j)))) (λσ=>∃x,σ=[x,some (V.ref v)]) ⟨_,rfl⟩ ⋯ ?_ ?_
    ·rintro j hj σ H4 M1 M0 ⟨y,rfl⟩ G k1 k0
     have U:=G _ _ Y;walk_at "wp";have hd:∀n,((pq.reverse.take n).map λr=>V.str ⟨#[r.getD j 0]⟩)=(((pq.reverse.take n).map λr=>r.getD j 0).map λc=>(⟨#[c]⟩:Str)).map V.str:=λn=>by rw[Ka,Ka];rfl
     refine⟨rfl,_,aN.of U,tQ (xs:=ao pq) (λn b σ D=>D=H4/\b=((pq.reverse.take n).map λr=>V.str ⟨#[r.getD j 0]⟩)/\n<=pq.length/\∃x,σ=[x,some (.int (j:Int))]) ⟨rfl,rfl,Kk _,none,by simp⟩ ?_ ?_ ?_ ?_ ?_⟩
     ·rintro n b σ D ⟨_,rfl,_⟩
      rw[JZ,KA,Kd,C.1];exact aX ⋯
     ·rintro n b σ D ⟨_,_,h,_⟩
      rw[aj];exact h
     ·rintro n b σ D ⟨rfl,_⟩
      exact aN.of U
     ·rintro n x b σ D hx ⟨rfl,rfl,hn,y,rfl⟩
      have k:n<pq.reverse.length:=by
       have:=(JX.mp hx).1
       rwa [Kd,aj,<- Kd (as:=pq)]at this
      have I:(ao pq.reverse)[n]?=some x:=by unfold ao at hx ⊢;rwa [List.map_reverse]
      rw[ba k]at I;cases I;have hm:pq.reverse[n]∈pq:=List.mem_reverse.mp (J6 k);have hr:=C.2 _ hm;walk_at "wp";have hc:(tx pq.reverse[n]).cps.toList[j]?=some (pq.reverse[n].getD j 0):=by rw[dj,q0A,JW ⋯];rfl
      refine⟨by rw[ax];exact au ⋯,_,bx hc,?_,by rw[Kd]at k;exact k⟩;rw[q0E,JW k,J_]
      rfl
     ·rintro b σ D ⟨rfl,rfl,_⟩ l k
      rw[aj,<- Kd (as:=pq),Kz]at *;refine⟨(rR pq j).map λc=>(⟨#[c]⟩:Str),.inl (aN.of ?_),?_,?_⟩
      ·rw[af];unfold rR;rw[Ka,Ka];rfl
      ·rw[Ka]
       have e:((λy:Str=>y.length)∘λc=>(⟨#[c]⟩:Str))=λ_=>1:=by funext c;rfl
       have e0:(Str.ofString "").length=0:=rfl;have e2:(rR pq j).length=pq.length:=by unfold rR;rw[JZ,Kd]
       rw[e,List.map_const',List.sum_replicate_nat,JZ,e0,e2,C.1];omega
      ·rw[i4]
       exact k1 _ _ _ rfl (G.trans (ak k)) ⟨_,rfl⟩
    ·intro H4 G l4 O
     rw[e_];refine⟨m.free (G.free O),?_,m.trans (G.trans (ak O))⟩;rw[af,M];unfold bv ao;rw[bc C g4,Ka];rfl
   ·rintro σ Z ⟨v,x,rfl,R,Y,m⟩
    refine h3 _ _ ?_;walk_at "wp";exact q v Z R (by rw[et];exact Y) m
  walk_at "wp";refine b9 (λh3=>⟨⟨_,aN.of e1⟩,?_⟩) (λh3=>u l p H1 k e1 s1 hp (by unfold turned;rw[q06 ⋯]));refine c7 (as:=p) (emb:=λrow=>V.str (tx row)) (f:=λrow=>some (V.str (tx row.reverse))) (λσ=>∃x,σ=[x]) ⟨_,rfl⟩ (λH2 B=>aN.of (B _ _ e1)) (by rw[hp.1];omega) ?_ ?_
  ·rintro j row d σ H2 M1 M0 ⟨y,rfl⟩ B k1 k0
   have hrl:=hp.2 row (J2 d);walk_at "wp";refine⟨by rw[ax];omega,by decide,?_⟩;rw[dj,i4];exact k1 _ _ _ rfl B ⟨_,rfl⟩
  ·intro H2 B z o
   rw[e_];have em:p.map (λrow=>V.str (tx row.reverse))=ao (mirror p):=by unfold ao mirror;rw[Ka];rfl
   rw[em];exact u z (mirror p) _ (s1.free (B.free o)) af (s1.trans (B.trans (ak o))) (cg hp) (by unfold turned;rw[q07 ⋯])
abbrev nV:Stmt:=fP 61
inductive pS(vs:List V)(H:Hp)(Q:VK)(_E:XK):Prop
 |mk (t:Nat) (_:vs=[.int (t:Int)]) (_:t<8) (_:Q (.int (cY t:Nat)) H)
theorem zm:aE ["_law_t"] ["_law_t"] (av nV):=by walk_at "c"
theorem xU{f:Addr}{fd:K5}(F:dr K "_law_back" "_law_back" nV f fd):br P w K mg base bD 1 f fd ["_law_t"] pS:=by
 have sc:=zm;walk_at "f"
 ·obtain⟨t,rfl,ht,q⟩:=h
  refine⟨_,(ae (bJ (aL (bj.m0 lY) (am 0) ai (aQ _))
   (ag (aK (am 0)))
   aV)
   (ag (aK (aw (bj.m1 a_) (aw (bj.m0 ii) ai (am 0)) ai)))),?_⟩
  walk_at "wp"
  split
  ·have e:((cY t:Nat):Int)=(t:Int):=by unfold cY;rw[q06 ⋯]
   rw[<- e];exact q
  ·have e:((cY t:Nat):Int)=(4-(t:Int))%4:=by unfold cY;rw[q07 ⋯];omega
   rw[<- e];exact q
def oB(k:Nat)(p q:aO):Option aO:=if k=1/\p.length=q.length then some (oz true p q) else if k=2/\(p.headD []).length=(q.headD []).length then some (oz false p q) else none
abbrev rp:Stmt:=fP 62
inductive uY(K:W.Frag)(vs:List V)(H:Hp)(Q:VK)(_E:XK):Prop
 |mk (a b:Addr) (p q:aO) (k r c r' c':Nat) (_:vs=[.int (k:Int),.ref a,.ref b]) (_:H a=some (.lst (ao p))) (_:H b=some (.lst (ao q))) (_:rect p r c) (_:rect q r' c') (_:0<r) (_:r<=6) (_:0<c) (_:c<=6) (_:0<r') (_:r'<=6) (_:0<c') (_:c'<=6) (_:k<4) (_:(oB k p q=none->∀H',aB H H'->Q .non H')) (_:∀pq,oB k p q=some pq->∀l H',H l=none->H' l=some (.lst (ao pq))->aB H H'->Q (.ref l) H')
theorem AF:aE ["_law_kind","_law_one","_law_other"] ["_law_kind","_law_one","_law_other"] (av rp):=by walk_at "c"
theorem zW{f:Addr}{fd:K5}(F:dr K "_law_put" "_law_put" rp f fd)(nb:NB mg):br P w K mg base bD 1 f fd ["_law_kind","_law_one","_law_other"] (uY K):=by
 have sc:=AF;walk_at "f"
 ·obtain⟨a,b,p,q,k,r,c,r',c',rfl,I,G,L,J,Z,r6,c0,c6,o,r6',c0',c6',k4,q0,q1⟩:=h
  refine⟨_,(ae (bJ (PW.pt (fL (aL dm (am 0) ai (aQ _)) (eV (aL dm (aA aZ rfl nb.len aW (ac (am 1) ad)) (aA aZ rfl nb.len aW (ac (am 2) ad)) (aQ _)))))
   (ag (aK (bZ ["_law_a","_law_b"] [] rfl (bE.of (by kernel_rfl)) (by kernel_rfl) (En rfl nb.zip (ac (am 1) (ac (am 2) ad)))
    (λ_ _ _ _=>(mR (K:=K) (n:=2) rfl rfl (bf (ay (i:=0) (by show(["_law_a","_law_b"]:List Str).Nodup;decide +kernel) rfl (Or.inl rfl)) (bf (ay (i:=1) (by show(["_law_a","_law_b"]:List Str).Nodup;decide +kernel) rfl (Or.inl rfl)) dQ)))) (λ_ _ _ _=>bW) (λ_ _ _ _=>(aw fO (am 0) (am 1))))))
   aV)
   (ae (bJ (PW.pt (fL (aL dm (am 0) ai (aQ _)) (eV (aL dm (aA aT rfl nb.len aW (ac (aU aY (am 1) ai (λ_ _=>rfl)) ad)) (aA aT rfl nb.len aW (ac (aU aY (am 2) ai (λ_ _=>rfl)) ad)) (aQ _)))))
   (ag (aK (aw qZ (am 1) (am 2))))
   aV)
   (ag (aK kL)))),?_⟩
  walk_at "n";have hplen:p.length=r:=L.1;have hqlen:q.length=r':=J.1;have e1:=bc L Z;have e2:=bc J o;have tail:N1 [some (V.int (k:Int)),some (V.ref a),some (V.ref b)] H\/True:=.inr trivial;have bY:¬ (k=1/\p.length=q.length)->N1 [some (V.int (k:Int)),some (V.ref a),some (V.ref b)] H:=by
   intro hn;refine h1 _ _ ?_;clear h1;obtain⟨S,Y⟩:=cT L Z;obtain⟨v,D⟩:=cT J o;refine aq λN1 h1=>?_;have no:¬ (k=2/\(p.headD []).length=(q.headD []).length)->N1 [some (V.int (k:Int)),some (V.ref a),some (V.ref b)] H:=by
    intro R;refine h1 _ _ ?_;walk_at "wp";exact q0 (by unfold oB;rw[q06 hn,q06 R]) H (λ_ _ e=>e)
   walk_at "wp";refine b9 (λB=>?_) (λB=>no (λz=>B ⋯));refine⟨_,aN.of I,_,(show iC _ ((0:Nat):Int)=_ from bx (ba S)),_,rfl,by rw[ax];exact au ⋯,_,aN.of G,_,(show iC _ ((0:Nat):Int)=_ from bx (ba v)),_,rfl,by rw[ax];exact au ⋯,?_⟩;rw[ax,ax,Y,D];refine b9 (λhc=>?_) (λhc=>no (λz=>hc (by rw[e1,e2]at z;omega)));refine⟨_,I,_,G,by rw[aj,aj];exact au ⋯,λl g=>?_⟩;exact q1 (oz false p q) (by unfold oB;rw[q06 hn,q07 ⟨⋯,by rw[e1,e2];omega⟩]) l _ g (by rw[af];unfold oz ao;rw[q06 (by decide),J_]) (ak g)
  refine b9 (λB=>⟨_,aN.of I,_,aN.of G,?_⟩) (λB=>bY (λz=>B ⋯));rw[aj,aj];refine b9 (λg=>?_) (λg=>bY (λz=>g ⋯));have O:p.length=q.length:=by omega
  refine⟨_,aN.of I,_,aN.of G,?_⟩;have u:(oz true p q).length=r:=by show((p.zip q).map _).length=_;rw[JZ,q0N];omega
  refine AJ (xs:=ao p) (ys:=ao q) (n:=r) (by rw[aj,aj];omega) (λi d σ m=>aB H m/\d=ao ((oz true p q).take i)/\i<=r/\∃y z,σ=[y,z]) ⟨λ_ _ e=>e,rfl,Kk _,_,_,rfl⟩ ?_ ?_ ?_ ?_ ?_
  ·rintro i d σ m ⟨_,rfl,U,_⟩
   rw[aj,KA];exact aX ⋯
  ·rintro i d σ m ⟨_,_,h,_⟩
   exact h
  ·rintro i d σ m ⟨j,_⟩
   exact⟨aN.of (j _ _ I),aN.of (j _ _ G)⟩
  ·rintro i x y d σ m T M hy ⟨j,rfl,_,y1,z1,rfl⟩ hT
   have U:i<p.length:=by have:=(JX.mp M).1;rwa [aj]at this
   have C:i<q.length:=by omega
   rw[ba U]at M;rw[ba C]at hy;cases M;cases hy;have hrow:=L.2 _ (J6 U);have yaV:=J.2 _ (J6 C);walk_at "wp";refine⟨_,dt.of af,rfl,_,_,rfl,_,_,rfl,rfl,?_⟩;have e:(oz true p q)[i]?=some (p[i]++q[i]):=by
    show((p.zip q).map λx=>x.1++x.2)[i]?=_;rw[J1,JW (by rw[q0N];omega),List.getElem_zip];rfl
   refine⟨_,rfl,_,rfl,by rw[ax,ax];exact au ⋯,j.trans (ak hT),?_,⋯⟩;rw[oG,q0E,e];show ao _++_=ao (_++[p[i]++q[i]]);rw[cR]
  ·rintro d σ m ⟨j,rfl,_⟩ l g
   rw[<- u,Kz];exact q1 _ (by unfold oB;rw[q07 ⟨⋯,O⟩]) l _ (j.free g) af (j.trans (ak g))
theorem iS{p:aO}(h:p≠[])(z:Int):∃nm,nm∈p/\iC (ao p) (z%((ao p).length:Int))=some (V.str (tx nm)):=by
 have hl:0<p.length:=List.length_pos_iff.mpr h;obtain⟨j,b⟩:∃j:Nat,z%((ao p).length:Int)=(j:Int):=⟨_,(KR (KP _ (by rw[aj];omega))).symm⟩;have a:j<p.length:=by
  have:=KQ z (show(0:Int)<((ao p).length:Int) by rw[aj];omega);rw[b,aj]at this;omega
 exact⟨p[j],J6 _,by rw[b];exact bx (ba a)⟩
theorem va{r:K0}(h:r≠[])(z:Int):∃g,g∈r/\iC (ao (cQ r)) (z%((ao (cQ r)).length:Int))=some (V.str (tx [g])):=by
 obtain⟨nm,a,e⟩:=iS (p:=cQ r) (by unfold cQ;simpa using h) z;obtain⟨g,b,rfl⟩:=KI.mp a;exact⟨g,b,e⟩
theorem qM{H H2 H3:Hp}{l t:Addr}{ts:K3}{rs:Yaa}{x:Nat×RV}(h:cX H l ts rs)(s:aB H H2)(ht:H2 t=none)(hv:H3=aD H2 t (.tup (oY x))):aB H H3/\H3 l=some (.lst (ts.map V.ref))/\cX (aD H3 l (.lst (ts.map V.ref++[V.ref t]))) l (ts++[t]) (rs++[x]):=by
 subst hv;have a:=s.trans (ak (o:=.tup (oY x)) ht);have b:=h.up a;exact⟨a,b.1,cX.app b af⟩
abbrev kM:Stmt:=fP 64
inductive oI(vs:List V)(H:Hp)(Q:VK)(_E:XK):Prop
 |mk (lc ln ls:Addr) (cs:List Int) (p:aO) (r:K0) (_:vs=[.ref lc,.ref ln,.ref ls]) (_:H lc=some (.lst (cs.map V.int))) (_:H ln=some (.lst (ao p))) (_:H ls=some (.lst (ao (cQ r)))) (_:p≠[]) (_:r≠[]) (_:cs.length<=100) (_:p.length<=8) (_:r.length<=8) (_:(∀n∈p,dD n=true)) (_:(∀c∈r,iw [c]=true)) (_:∀l ts rs H',H l=none->cX H' l ts rs->rs.length=cs.length->(∀x∈rs,iF p r x)->aB H H'->Q (.ref l) H')
theorem vY:aE ["_law_cells","_law_names_here","_law_signs_here","_law_rules","_law_cell_here","_law_name","_law_cost","_law_one"] ["_law_cells","_law_names_here","_law_signs_here"] (av kM):=by walk_at "c"
theorem vn{f:Addr}{fd:K5}(F:dr K "_law_noise" "_law_noise" kM f fd)(nb:NB mg):br P w K mg base bD 1 f fd ["_law_cells","_law_names_here","_law_signs_here"] oI:=by
 have sc:=vY;walk_at "f"
 ·obtain⟨lc,ln,ls,cs,p,r,rfl,R,a3,a2,T,r0,c100,p8,r8,B,a0,q⟩:=h
  refine⟨_,(ae (q01 3 sc.nd (bz ad))
   (ae (bg PassesOwn.never rfl (bi (am 0)) (q02 4 sc.nd)
   (ae (q01 5 sc.nd (aU aY (am 1) (aw (bj.m1 a_) (aw (bj.m1 bd) (am 4) ai) (aA aZ rfl nb.len aW (ac (am 1) ad))) (λ_ _=>rfl)))
   (ae (q01 6 sc.nd (aw (bj.m0 bO) ai (aw (bj.m1 a_) (aw (bj.m1 bd) (am 4) ai) ai)))
   (ae (q01 7 sc.nd (aU aY (am 1) (aw (bj.m1 a_) (aw (bj.m1 bd) (am 4) ai) (aA aZ rfl nb.len aW (ac (am 1) ad))) (λ_ _=>rfl)))
   (ag (bJ (aL dm (aw (bj.m1 a_) (am 4) ai) ai (aQ _))
   (ag (bo (q03 (am 3) (ac (bN (b7 (ac (am 5) (ac (am 6) (ac (aU aY (am 2) (aw (bj.m1 a_) (aw (bj.m1 bd) (am 4) ai) (aA aZ rfl nb.len aW (ac (am 2) ad))) (λ_ _=>rfl)) (gz ad)))))) ad))))
   (ag (bJ (aL dm (aw (bj.m1 a_) (am 4) ai) ai (aQ _))
   (ag (bo (q03 (am 3) (ac (bN (b7 (ac (am 5) (ac (am 6) (ac (am 7) (ac (aw (bj.m1 a_) (aw (bj.m1 bd) (am 4) ai) ai) ad)))))) ad))))
   (ag (bo (q03 (am 3) (ac (bN (ac (aw (bj.m1 a_) (am 4) ai) (ac (am 5) (ac (am 6) (ac (am 7) (ac (aU aY (am 1) (aw (bj.m1 a_) (aw (bj.m1 bd) (am 4) ai) (aA aZ rfl nb.len aW (ac (am 1) ad))) (λ_ _=>rfl)) ad)))))) ad))))))))))))
   (ag (aK (am 3))))),?_⟩
  walk_at "n";refine⟨Kk _,λl hl=>h1 _ _ ?_⟩;clear h1;generalize z0:aD H l _=H1;obtain⟨s1,e1⟩:=dU hl z0;walk_at "n";have C:0<(ao p).length:=by rw[aj];exact List.length_pos_iff.mpr T
  have a1:0<(ao (cQ r)).length:=by rw[aj];unfold cQ;rw[JZ];exact List.length_pos_iff.mpr r0
  refine⟨⟨_,aN.of (s1 _ _ R)⟩,?_⟩;refine bQ (xs:=cs.map V.int) (λi σ n=>aB H n/\i<=cs.length/\(∃G o,cX n l G o/\o.length=i/\∀x∈o,iF p r x)/\∃x4 Z Y U,σ=[some (V.ref lc),some (V.ref ln),some (V.ref ls),some (V.ref l),x4,Z,Y,U]) ⟨s1,Kk _,⟨[],[],⟨e1,rfl,λi t r e=>by simp at e⟩,rfl,λx I=>nomatch I⟩,_,_,_,_,rfl⟩ (λi σ n _ h=>aN.of (h.1 _ _ R)) ?_ ?_
  ·rintro i x σ n I ⟨J,_,⟨G,o,S,m,z⟩,x4,Z,Y,U,rfl⟩
   rw[J1]at I;obtain⟨c,hc,rfl⟩:=Kn.mp I;have hi:=(JX.mp hc).1;have a:=J _ _ a3;have u:=J _ _ a2;obtain⟨nm,M,en⟩:=iS T (c/4);obtain⟨on,L,eo⟩:=iS T (c/144);obtain⟨n2,O,e2⟩:=iS T (c/576);obtain⟨g,hg,eg⟩:=va r0 (c/144);have D:1<=1+c/16%9/\1+c/16%9<=9:=by omega
   have hrl2:=S.2.1;have mk:∀(k:Nat) (t:Int),k<4->0<=t->t<=7->iF p r (k,⟨nm,1+c/16%9,on,n2,[g],t⟩):=λk t hk t0 t7=>by
    have gd:(⟨nm,1+c/16%9,on,n2,[g],t⟩:RV).good:=⟨B nm M,D.1,D.2,B on L,B n2 O,a0 g hg,t0,t7⟩;exact⟨⟨hk,gd,gd.small⟩,M,L,O,⟨g,hg,rfl⟩⟩
   walk_at "n";refine⟨_,aN.of a,Int.ofNat_lt.mpr C,_,aN.of a,_,en,h1 _ _ ?_⟩;walk_at "nc";refine h1 _ _ ?_;walk_at "nc";refine⟨_,aN.of a,Int.ofNat_lt.mpr C,_,aN.of a,_,eo,h1 _ _ ?_⟩;clear h1;generalize hcst:1+c/16%9=cs1 at D mk ⊢;have fin:∀x,iF p r x->∀b,oY x=b->∀j,n j=none->∃xs,aD n j (.tup b) l=some (.lst xs)/\xs.length<sizeLine/\aB H (aD (aD n j (.tup b)) l (.lst (xs++[V.ref j])))/\i+1<=cs.length/\∃G o,cX (aD (aD n j (.tup b)) l (.lst (xs++[V.ref j]))) l G o/\o.length=i+1/\∀x∈o,iF p r x:=λx I b ev j d=>by
    subst ev;obtain⟨sA,eA,rA⟩:=qM S (λ_ _ e=>e) d rfl;refine⟨_,eA,by rw[JZ];exact aX ⋯,bK (J.trans sA) hl,hi,_,_,rA,by rw[Ki,m];rfl,λy hy=>?_⟩;rcases J'.mp hy with h | h
    ·exact z y h
    ·rw[J0.mp h];exact I
   have v:GJ K "list" (V.ref l) n:=.inl ⟨rfl,_,aN.of S.1⟩;walk_at "wp";refine b9 (λh0=>?_) (λh0=>b9 (λh3=>?_) (λh3=>?_))
   ·exact⟨v,_,aN.of u,Int.ofNat_lt.mpr a1,_,aN.of u,_,eg,au (by decide),λj d=>fin _ (mk 0 0 (by decide) (by decide) (by decide)) _ rfl j d⟩
   ·exact⟨v,au (by decide),λj d=>fin _ (mk 3 (c/576%8) (by decide) ⋯ ⋯) _ rfl j d⟩
   ·refine⟨v,_,aN.of a,Int.ofNat_lt.mpr C,_,aN.of a,_,e2,au (by decide),λj d=>?_⟩
    rcases(by omega:c%4=1\/c%4=2) with h | h<;>rw[h]
    ·exact fin _ (mk 1 0 (by decide) (by decide) (by decide)) _ rfl j d
    ·exact fin _ (mk 2 0 (by decide) (by decide) (by decide)) _ rfl j d
  ·rintro σ n ⟨J,_,⟨G,o,S,m,z⟩,x4,Z,Y,U,rfl⟩
   refine h1 _ _ ?_;walk_at "wp";exact q l G o n hl S (by rw[m,JZ]) z J
theorem nR{tb:Tb}{i:Nat}{kv:List cM×V}(h:(tb.map eO)[i]?=some kv):∃e,tb[i]?=some e/\kv=eO e:=by
 rw[J1]at h;obtain⟨e,a,rfl⟩:=Kn.mp h;exact⟨e,a,rfl⟩
theorem sh{H:Hp}{d b:Addr}{o:Obj}{tb:Tb}{k:Ky}{v:Int}(nd:(tb.map (·.1)).Nodup)(hd:H d=some (.frz o (.dT (tb.map eO))))(hb:H b=some (.tup (pE k)))(hm:(k,v)∈tb):kN H d (.ref b) (some (.int v)):=
 .inr ⟨tb.map eO,fD k,b,.inr ⟨o,hd⟩,rfl,hb,by rw[kx,ue nd hm];rfl⟩
abbrev kY:Stmt:=fP 69
inductive oW(vs:List V)(H:Hp)(Q:VK)(_E:XK):Prop
 |mk (d:Addr) (tb:Tb) (_:vs=[.ref d]) (_:cy H d tb) (_:(tb.map (·.1)).Nodup) (_:∀H' o,H' d=some (.frz o (.dT (tb.map eO)))->bh d H H'->Q (.bl true) H')
theorem wI:aE ["_law_told","_law_key"] ["_law_told"] (av kY):=by walk_at "c"
theorem wE{f:Addr}{fd:K5}(F:dr K "_law_table" "_law_table" kY f fd)(nb:NB mg)(zBb:dG P w K mg base bD 1 "_law_whole" ["_law_x"] mY):br P w K mg base bD 2 f fd ["_law_told"] oW:=by
 have sc:=wI;walk_at "f"
 ·obtain⟨d,tb,rfl,m,nd,q⟩:=h
  have n:=hr.units;refine⟨_,(ae (bJ (fz (eS (aA b5 rfl nb.isinstance b_ (ac (am 0) (ac (iZ (v:=.ty "dict") rfl nb.dict Cm rfl) ad))) λ_=>rfl))
   (ag (aK gM))
   aV)
   (ae (bg PassesOwn.never rfl (AS (am 0)) (q02 1 sc.nd)
   (ae (bJ (PW.pt (lU (fz (eS (aA b5 rfl nb.isinstance b_ (ac (am 1) (ac (iZ (v:=.ty "tuple") rfl nb.tuple BU rfl) ad))) λ_=>rfl)) (lU (aL DJ (aA yZ rfl nb.len aW (ac (am 1) ad)) ai (aQ _)) (lC (fz (eS (q00 zBb hr (ac (ik (KG (KL (by decide:1<=64) _) n) (am 0) (am 1) (λ_ _=>rfl)) ad)) λ_=>rfl))))))
   (ag (aK gM))
   aV)
   (ag (bJ (PW.pt (lU (fz (eS (aA b5 rfl nb.isinstance b_ (ac (aU bH (am 1) ai (λ_ _=>rfl)) (ac (iZ (v:=.ty "str") rfl nb.str zV rfl) ad))) λ_=>rfl)) (lC (fz (eS (aA b5 rfl nb.isinstance b_ (ac (aU bH (am 1) ai (λ_ _=>rfl)) (ac (iZ (v:=.ty "str") rfl nb.str zV rfl) ad))) λ_=>rfl)))))
   (ag (aK gM))
   aV))))
   (ag (aK gM)))),?_⟩
  walk_at "n";refine⟨_,.dT m,_,iH K "dict",?_⟩;rw[q06 (by decide)];refine h1 _ _ ?_;walk_at "nc";refine⟨tb.map eO,.inl ⟨m,λo=>?_⟩⟩;have g:bh d H (aD H d (.frz o (.dT (tb.map eO)))):=(bh.of λ_ _ h=>h).put;have k:aD H d (.frz o (.dT (tb.map eO))) d=some (.frz o (.dT (tb.map eO))):=af;generalize aD H d (.frz o (.dT (tb.map eO)))=H1 at g k ⊢;refine xK (λi σ c=>aB H1 c/\∃x,σ=[some (V.ref d),x]) ⟨λ_ _ h=>h,_,rfl⟩ (λi σ c _ h=>h.1 _ _ k) ?_ ?_
  ·rintro i b kv σ c l u ⟨j,x,rfl⟩
   obtain⟨e,r,rfl⟩:=nR l;have a:c b=some (.tup (pE e.1)):=u;have p:=sh nd (j _ _ k) a (J2 r);walk_at "n";refine⟨_,.tup a,_,iH K "tuple",?_⟩;rw[q06 (by decide)];refine⟨_,dt.of a,?_⟩;rw[q06 (by intro h;exact h rfl)];refine⟨_,p,_,rfl,true,rfl,?_⟩;rw[q06 (by decide)];refine h1 _ _ ?_;clear h1;walk_at "wp";refine⟨_,dt.of a,_,rfl,_,.str _,_,iH K "str",?_⟩;rw[q06 (by decide)];refine⟨_,dt.of a,_,rfl,_,.str _,_,iH K "str",?_⟩;rw[q06 (by decide)];exact j
  ·rintro σ c ⟨j,x,rfl⟩
   refine h1 _ _ ?_;walk_at "wp";exact q c o (j _ _ k) (g.then j)
theorem FE{l:K0}:∀{r:K0},l.Nodup->(∀x∈l,x∈r)->l.length<=r.length:=by
 induction l with
 |nil=>intro r _ _;exact Kk _
 |cons x l ih=>
  intro r a d;rw[q0d]at a;have c:=d x (q0B ..);have:=ih (r:=r.erase x) a.2 λy b=>(List.mem_erase_of_ne (λe=>a.1 (by rw[<- e];exact b))).mpr (d y (Kc _ b));rw[List.length_erase_of_mem c]at this;have:=List.length_pos_of_mem c;rw[J9];omega
theorem uU(c:Nat):∀r:List Nat,Dz (.str ⟨#[c]⟩) (ao (cQ r))=r.contains c
 | []=>rfl
 |x::r=>by
  have ih:=uU c r;have e:Dz (.str ⟨#[c]⟩) (ao (cQ (x::r)))=((tx [x]==⟨#[c]⟩)||Dz (.str ⟨#[c]⟩) (ao (cQ r))):=rfl;rw[e,ih,List.contains_cons]
  congr 1
  by_cases h:c=x
  ·subst h
   rw[beq_self_eq_true];exact beq_self_eq_true (tx [c])
  ·rw[beq_eq_false_iff_ne.mpr h]
   exact beq_eq_false_iff_ne.mpr λe=>h (by have:=dB (a:=[x]) (b:=[c]) e;injection this with this _;exact this.symm)
abbrev iY:Stmt:=fP 72
inductive ku(K:W.Frag)(vs:List V)(H:Hp)(Q:VK)(_E:XK):Prop
 |mk (ls:Addr) (r:K0) (_:vs=[.ref ls]) (_:H ls=some (.lst (ao (cQ r)))) (_:r.length<=4) (_:∀c H',97<=c->c<=122->aB H H'->Q (.str (tx [c])) H')
theorem sS:aE ["_law_signs_here"] ["_law_signs_here"] (av iY):=by walk_at "c"
theorem qS{f:Addr}{fd:K5}(F:dr K "_law_strange" "_law_strange" iY f fd)(nb:NB mg):br P w K mg base bD 1 f fd ["_law_signs_here"] (ku K):=by
 have sc:=sS;walk_at "f"
 ·obtain⟨o,r,rfl,g,r4,q⟩:=h
  have hu:=hr.units;refine⟨_,(ag (aK (aU aY (bZ ["_law_sign"] [0] rfl (bE.of (by kernel_rfl)) (by kernel_rfl) (AL jJ)
    (λ_ _ _ _=>(ay (i:=0) (by show(["_law_sign","_law_signs_here"]:List Str).Nodup;decide +kernel) rfl (Or.inl rfl))) (λ_ _ _ _=>(kg (aL (pA (K:=K) rfl) (am 0) (am 1) (by with_unfolding_all rfl)))) (λ_ _ _ _=>(am 0))) ai (λ_ _=>rfl)))),?_⟩
  walk_at "wp";rw[show Str.ofString "abcdeq"=tx [97,98,99,100,101,113] from rfl];have b:∀c:Nat,Dz (.str ⟨#[c]⟩) (ao (cQ r))=r.contains c:=λc=>uU c r;have n:(ao (cQ r)).all iy=true:=by
   unfold ao;rw[List.all_map];exact KJ.mpr λx _=>rfl
  refine yw (r:=[97,98,99,100,101,113]) (f:=λc=>if r.contains c then none else some (V.str ⟨#[c]⟩)) (λσ=>∃x,σ=[x,some (V.ref o)]) ⟨_,rfl⟩ (by decide) ?_ ?_
  ·rintro c m σ D N1 N0 ⟨y,rfl⟩ a p u
   walk_at "wp";refine⟨o,_,rfl,.inl (aN.of (a _ _ g)),rfl,n,?_⟩;rw[b];refine⟨_,rfl,?_⟩;cases hr:r.contains c with
   |true=>exact u _ _ (by rw[hr];rfl) a ⟨_,rfl⟩
   |false=>exact p _ _ _ (by rw[hr];rfl) a ⟨_,rfl⟩
  ·intro D a l B
   obtain⟨c,bY,C,m⟩:∃c bY,([97,98,99,100,101,113].filterMap λc=>if r.contains c then none else some (V.str ⟨#[c]⟩))=V.str ⟨#[c]⟩::bY/\97<=c/\c<=122:=by
    cases k:([97,98,99,100,101,113].filterMap λc=>if r.contains c then none else some (V.str ⟨#[c]⟩)) with
    |nil=>
     exfalso;rw[List.filterMap_eq_nil_iff]at k;have:=FE (l:=[97,98,99,100,101,113]) (r:=r) (by decide) λx d=>by
      have h:=k x d;cases hr:r.contains x with
      |true=>simpa using hr
      |false=>rw[hr]at h;cases h
     simp at this;omega
    |cons v bY=>
     have z:v∈([97,98,99,100,101,113].filterMap λc=>if r.contains c then none else some (V.str ⟨#[c]⟩)):=by rw[k];exact q0B ..
     obtain⟨x,d,e⟩:=List.mem_filterMap.mp z
     split at e
     ·cases e
     ·cases e
      exact⟨x,bY,rfl,by simp at d;omega⟩
   rw[C];exact⟨_,aN.of af,V.str (tx [c]),bx (j:=0) rfl,q c _ m.1 m.2 (a.trans (ak B))⟩
structure fG(p:aO)(a b:Nat):Prop where
 rc:rect p a b
 a1:1<=a
 a6:a<=6
 b1:1<=b
 b6:b<=6
 ns:bU p
abbrev iG:Stmt:=fP 73
inductive kq(K:W.Frag)(vs:List V)(H:Hp)(Q:VK)(_E:XK):Prop
 |mk (lp:Addr) (p:aO) (a b:Nat) (c:Int) (_:vs=[.ref lp,.int c]) (_:H lp=some (.lst (ao p))) (_:fG p a b) (_:∀l p' a' b' H',H l=none->H' l=some (.lst (ao p'))->fG p' a' b'->aB H H'->Q (.ref l) H')
theorem sd:aE ["_law_picture","_law_cell_here","_law_found"] ["_law_picture","_law_cell_here"] (av iG):=by walk_at "c"
theorem sw{f:Addr}{fd:K5}(F:dr K "_law_doubled" "_law_doubled" iG f fd)(nb:NB mg):br P w K mg base bD 1 f fd ["_law_picture","_law_cell_here"] (kq K):=by
 have sc:=sd;walk_at "f"
 ·obtain⟨lp,p,a,b,c,rfl,hp,d,q⟩:=h
  refine⟨_,(ae (q01 2 sc.nd (cU cI rfl nb.list fq (ac (am 0) ad)))
   (ae (bJ (PW.pt (fL (aL (bj.m0 lY) (aw (bj.m1 a_) (am 1) ai) ai (aQ _)) (fL (aL (bj.m0 kn) (aw (bj.m1 dz) (aA aZ rfl nb.len aW (ac (am 2) ad)) (aA aT rfl nb.len aW (ac (aU aY (am 2) ai (λ_ _=>rfl)) ad))) ai (aQ _)) (eV (aL (bj.m0 kn) (aA (qy rfl) rfl nb.max A3 (ac (aA aZ rfl nb.len aW (ac (am 2) ad)) (ac (aA aT rfl nb.len aW (ac (aU aY (am 2) ai (λ_ _=>rfl)) ad)) ad))) ai (aQ _))))))
   (ae (dS (i:=2) ["_law_row"] [] sc.nd rfl (Or.inl rfl) rfl  rfl (bE.of (by kernel_rfl)) (by kernel_rfl) (bi (am 2))
    (λ_ _ _ _=>(ay (i:=0) (by show(["_law_row"]:List Str).Nodup;decide +kernel) rfl (Or.inl rfl))) (λ_ _ _ _=>bW) (λ_ _ _ _=>(aw fO (am 0) (am 0))))
   (ag (bJ (aL dm (aw (bj.m1 a_) (am 1) ai) ai (aQ _))
   (ag (q01 2 sc.nd (aw qZ (am 2) (am 2))))
   aV)))
   aV)
   (ag (aK (am 2))))),?_⟩
  walk_at "n";refine⟨_,.inl (aN.of hp),λl hl=>h1 _ _ ?_⟩;clear h1;generalize G:aD H l _=H1;obtain⟨L,o⟩:=dU hl G;walk_at "n";obtain⟨S,k⟩:=cT d.rc (show 0<a from d.a1);have a6:=d.a6;have b6:=d.b6;have h0:iC (ao p) 0=some (V.str (tx p[0])):=(show iC _ ((0:Nat):Int)=_ from bx (ba S));have e:N1 [some (V.ref lp),some (V.int c),some (V.ref l)] H1:=by
   refine h1 _ _ ?_;walk_at "wp";exact q l p a b H1 hl o d L
  have zl:(tx p[0]).length<=sizeLine:=by rw[ax];exact au ⋯
  refine b9 (λh8=>⟨_,aN.of o,_,aN.of o,_,h0,_,rfl,zl,.inl ⟨⋯,by rw[aj,d.rc.1];omega⟩,?_⟩) (λ_=>e);rw[aj,d.rc.1,ax,k];refine b9 (λh5=>⟨_,aN.of o,_,aN.of o,_,h0,_,rfl,zl,?_⟩) (λ_=>e);rw[aj,d.rc.1,ax,k];refine b9 (λU=>⟨⟨_,aN.of o⟩,?_⟩) (λ_=>e);have ha4:a<4/\b<4:=by split at U<;>omega
  have g:fG (p.map λrow=>row++row) a (b+b):=⟨⟨by rw[JZ];exact d.rc.1,λx n=>by
   obtain⟨y,O,rfl⟩:=KI.mp n;rw[Ki,d.rc.2 y O]⟩,d.a1,a6,by have:=d.b1;omega,⋯,λx n T=>by
   obtain⟨y,O,rfl⟩:=KI.mp n;exact d.ns y O ((J'.mp T).elim id id)⟩
  refine c7 (as:=p) (emb:=λrow=>V.str (tx row)) (f:=λrow=>some (V.str (tx (row++row)))) (λσ=>∃x,σ=[x]) ⟨_,rfl⟩ (λH2 r=>aN.of (r _ _ o)) (by rw[d.rc.1];omega) ?_ ?_
  ·rintro j row I σ H2 M1 M0 ⟨y,rfl⟩ r k1 k0
   have hrl:=d.rc.2 row (J2 I);walk_at "wp";refine⟨by rw[ax];exact au ⋯,?_⟩;rw[oG];exact k1 _ _ _ rfl r ⟨_,rfl⟩
  ·intro H2 r M B
   rw[e_];have er:p.map (λrow=>V.str (tx (row++row)))=ao (p.map λrow=>row++row):=by unfold ao;rw[Ka];rfl
   rw[er];generalize G:aD H2 M _=H3;obtain⟨s3,Y⟩:=dU B G;have J:=L.trans (r.trans s3);have u:∀(m:Addr) (D:aO) (a4 Z:Nat) (C:Hp),H m=none->C m=some (.lst (ao D))->fG D a4 Z->aB H C->N1 [some (V.ref lp),some (V.int c),some (V.ref m)] C:=λm D a4 Z C hn U R s4=>by
    refine h1 _ _ ?_;walk_at "wp";exact q m D a4 Z C hn U R s4
   have z:H M=none:=L.free (r.free B);refine b9 (λh7=>⟨_,Y,_,Y,by rw[aj,JZ,d.rc.1];exact au ⋯,λm v=>?_⟩) (λ_=>u M _ _ _ H3 z Y g J);refine u m ((p.map λrow=>row++row)++(p.map λrow=>row++row)) (a+a) (b+b) _ (J.free v) (by rw[af];unfold ao;rw[J_]) ⟨⟨by rw[Ki,g.rc.1],λx n=>g.rc.2 x ((J'.mp n).elim id id)⟩,by have:=d.a1;omega,⋯,g.b1,g.b6,λx n=>g.ns x ((J'.mp n).elim id id)⟩ (J.trans (ak v))
structure tI where
 a:Addr
 lp:Addr
 vt:V
 nm:List Nat
 p:aO
 c:Int
def tI.at(H:Hp)(z:tI):Prop:=H z.a=some (.tup [z.vt,.str (tx z.nm),.ref z.lp,.int z.c])/\H z.lp=some (.lst (ao z.p))
theorem tI.at.up{H H':Hp}{z:tI}(h:z.at H)(s:aB H H'):z.at H':=⟨s _ _ h.1,s _ _ h.2⟩
theorem jQ{p:aO}{a b:Nat}(h:fG p a b):(∃hl:0<p.length,(p[0]).length=b)/\p.length=a:=⟨cT h.rc (show 0<a from h.a1),h.rc.1⟩
abbrev jC:Stmt:=fP 71
inductive mj(K:W.Frag)(vs:List V)(H:Hp)(Q:VK)(_E:XK):Prop
 |mk (lt:Addr) (zs:List tI) (c:Int) (_:vs=[.ref lt,.int c]) (_:H lt=some (.lst (zs.map λz=>V.ref z.a))) (_:zs≠[]) (_:(∀z∈zs,z.at H/\∃a b,fG z.p a b)) (_:∀z∈zs,Q (.ref z.a) H)
theorem u6:aE ["_law_trees","_law_cell_here","_law_best","_law_one"] ["_law_trees","_law_cell_here"] (av jC):=by walk_at "c"
theorem tW{f:Addr}{fd:K5}(F:dr K "_law_picked" "_law_picked" jC f fd)(nb:NB mg):br P w K mg base bD 1 f fd ["_law_trees","_law_cell_here"] (mj K):=by
 have sc:=u6;walk_at "f"
 ·obtain⟨lt,e,c,rfl,l,J,C,q⟩:=h
  have g:0<e.length:=List.length_pos_iff.mpr J;refine⟨_,(ae (bJ (aL dm (aw (bj.m1 a_) (am 1) ai) ai (aQ _))
   (ag (aK (aU aY (am 0) (aw (bj.m1 a_) (aw (bj.m1 bd) (am 1) ai) (aA aZ rfl nb.len aW (ac (am 0) ad))) (λ_ _=>rfl))))
   aV)
   (ae (q01 2 sc.nd (aU aY (am 0) ai (λ_ _=>rfl)))
   (ae (bg PassesOwn.never rfl (bi (am 0)) (q02 3 sc.nd)
   (ag (bJ (aL (bj.m0 Dy) (aw (bj.m1 dz) (aA aZ rfl nb.len aW (ac (aU bH (am 3) ai (λ_ _=>rfl)) ad)) (aA aT rfl nb.len aW (ac (aU aY (aU bH (am 3) ai (λ_ _=>rfl)) ai (λ_ _=>rfl)) ad))) (aw (bj.m1 dz) (aA aZ rfl nb.len aW (ac (aU bH (am 2) ai (λ_ _=>rfl)) ad)) (aA aT rfl nb.len aW (ac (aU aY (aU bH (am 2) ai (λ_ _=>rfl)) ai (λ_ _=>rfl)) ad))) (aQ _))
   (ag (q01 2 sc.nd (am 3)))
   aV)))
   (ag (aK (am 2)))))),?_⟩
  walk_at "n";refine b9 (λT=>?_) (λT=>h1 _ _ ?_)
  ·refine⟨_,aN.of l,by rw[JZ];omega,_,aN.of l,?_⟩
   rw[JZ];obtain⟨j,S⟩:∃j:Nat,c/3%(e.length:Int)=(j:Int):=⟨_,(KR (KP _ ⋯)).symm⟩;have k:j<e.length:=by have:=KQ (c/3) (show(0:Int)<(e.length:Int) by omega);omega
   rw[S];exact⟨_,bx (by rw[J1,JW k];rfl),q _ (J6 k)⟩
  ·walk_at "nc"
   refine⟨_,aN.of l,_,(show iC _ ((0:Nat):Int)=_ from bx (by rw[J1,JW g];rfl)),h1 _ _ ?_⟩;walk_at "nc";refine⟨⟨_,aN.of l⟩,?_⟩;refine bQ (xs:=e.map λz=>V.ref z.a) (λi σ r=>r=H/\∃z∈e,∃x,σ=[some (V.ref lt),some (V.int c),some (V.ref z.a),x]) ⟨rfl,_,J6 g,_,rfl⟩ (λi σ r _ h=>by rw[h.1];exact aN.of l) ?_ ?_
   ·rintro i x σ r D ⟨rfl,z,b,y,rfl⟩
    rw[J1]at D;obtain⟨o,u,rfl⟩:=Kn.mp D;have d:=J2 u;obtain⟨⟨I,G⟩,a1,b1,B⟩:=C z b;obtain⟨⟨n,m⟩,a2,b2,v⟩:=C o d;obtain⟨⟨M,w1⟩,n1⟩:=jQ B;obtain⟨⟨L,w2⟩,n2⟩:=jQ v;have:=B.a6;have:=B.b6;have:=v.a6;have:=v.b6;have R:iC (ao z.p) 0=some (V.str (tx z.p[0])):=(show iC _ ((0:Nat):Int)=_ from bx (ba M));have O:iC (ao o.p) 0=some (V.str (tx o.p[0])):=(show iC _ ((0:Nat):Int)=_ from bx (ba L));walk_at "wp";refine⟨_,dt.of n,_,rfl,_,rfl,_,aN.of m,_,dt.of n,_,rfl,_,rfl,_,aN.of m,_,O,_,rfl,by rw[ax];exact au ⋯,.inl ⟨⋯,by rw[aj];omega⟩,_,dt.of I,_,rfl,_,rfl,_,aN.of G,_,dt.of I,_,rfl,_,rfl,_,aN.of G,_,R,_,rfl,by rw[ax];exact au ⋯,.inl ⟨⋯,by rw[aj];omega⟩,?_⟩;refine b9 (λ_=>?_) (λ_=>?_)
    ·exact⟨o,d,rfl⟩
    ·exact⟨z,b,rfl⟩
   ·rintro σ r ⟨rfl,z,b,x,rfl⟩
    refine h1 _ _ ?_;walk_at "wp";exact q z b
abbrev jK:Stmt:=fP 70
inductive me(K:W.Frag)(vs:List V)(H:Hp)(Q:VK)(_E:XK):Prop
 |mk (ls lp:Addr) (ns:List Int) (k:Nat) (p:aO) (a b:Nat) (_:vs=[.ref ls,.int (k:Int),.ref lp]) (_:aN K H ls (ns.map V.int)) (_:k<=900) (_:H lp=some (.lst (ao p))) (_:fG p a b) (_:∀l q' H',H l=none->H' l=some (.lst (ao q'))->bM p a b q'->aB H H'->Q (.ref l) H')
theorem uW:aE ["_law_script","_law_at","_law_picture","_law_top","_law_bottom","_law_left","_law_right","_law_part"] ["_law_script","_law_at","_law_picture"] (av jK):=by walk_at "c"
theorem tV{f:Addr}{fd:K5}(F:dr K "_law_window" "_law_window" jK f fd)(nb:NB mg)(zga:dG P w K mg base bD 1 "_law_cell" ["_law_script","_law_k"] (i_ K))(zia:dG P w K mg base bD 1 "_law_turned" ["_law_picture","_law_t"] (fR K)):br P w K mg base bD 2 f fd ["_law_script","_law_at","_law_picture"] (me K):=by
 have sc:=uW;walk_at "f"
 ·obtain⟨o,lp,ns,k,p,a,b,rfl,B,hk,r,c,q⟩:=h
  refine⟨_,(ae (q01 3 sc.nd (aw (bj.m1 a_) (q00 zga hr (ac (am 0) (ac (am 1) ad))) (aA aZ rfl nb.len aW (ac (am 2) ad))))
   (ae (q01 4 sc.nd (aw (bj.m0 bO) (aw (bj.m0 bO) (am 3) ai) (aw (bj.m1 a_) (aw (bj.m1 bd) (q00 zga hr (ac (am 0) (ac (am 1) ad))) ai) (aw (bj.m0 ii) (aA aZ rfl nb.len aW (ac (am 2) ad)) (am 3)))))
   (ae (aH (i:=5) sc.nd rfl (Or.inr rfl) (aw (bj.m1 a_) (q00 zga hr (ac (am 0) (ac (aw (bj.m0 bO) (am 1) ai) ad))) (aA aT rfl nb.len aW (ac (aU aY (am 2) ai (λ_ _=>rfl)) ad))))
   (ae (aH (i:=6) sc.nd rfl (Or.inr rfl) (aw (bj.m0 bO) (aw (bj.m0 bO) (am 5) ai) (aw (bj.m1 a_) (aw (bj.m1 bd) (q00 zga hr (ac (am 0) (ac (aw (bj.m0 bO) (am 1) ai) ad))) ai) (aw (bj.m0 ii) (aA aT rfl nb.len aW (ac (aU aY (am 2) ai (λ_ _=>rfl)) ad)) (am 5)))))
   (ae (dS (i:=7) ["_law_row"] [5,6] sc.nd rfl (Or.inl rfl) rfl  rfl (bE.of (by kernel_rfl)) (by kernel_rfl) (bi (cH hZ (am 2) (cE (am 3)) (cE (am 4))))
    (λ_ _ _ _=>(ay (i:=0) (by show(["_law_row","_law_left","_law_right"]:List Str).Nodup;decide +kernel) rfl (Or.inl rfl))) (λ_ _ _ _=>bW) (λ_ _ _ _=>(cH jN (am 0) (cE (am 1)) (cE (am 2)))))
   (ag (aK (q00 zia hr (ac (am 7) (ac (aw (bj.m1 a_) (aw (bj.m1 bd) (q00 zga hr (ac (am 0) (ac (am 1) ad))) ai) ai) ad)))))))))),?_⟩
  walk_at "n";obtain⟨R,g⟩:=cT c.rc (show 0<a from c.a1);have a1:=c.a1;have b1:=c.b1;have a6:=c.a6;have b6:=c.b6;have h0:iC (ao p) 0=some (V.str (tx p[0])):=(show iC _ ((0:Nat):Int)=_ from bx (ba R));have m:∀(z:Int) (n:Nat),0<n->∃j:Nat,z%(n:Int)=(j:Int)/\j<n:=λz n hn=>⟨(z%(n:Int)).toNat,(KR (KP _ ⋯)).symm,by have:=KQ z (show(0:Int)<(n:Int) by omega);omega⟩;obtain⟨t,et,ht⟩:=m (cN ns k) a ⋯;refine⟨o,ns,k,rfl,B,⋯,_,aN.of r,?_⟩;rw[aj,c.rc.1];refine⟨_,rfl,⋯,?_⟩;rw[et];refine h1 _ _ ?_;clear h1;obtain⟨d,U,ht2⟩:=m (cN ns k/8) (a-t) ⋯;walk_at "n";refine⟨o,ns,k,rfl,B,⋯,_,rfl,_,aN.of r,?_⟩;rw[aj,c.rc.1];refine⟨⋯,?_⟩;rw[show(a:Int)-(t:Int)=((a-t:Nat):Int) by omega,U];refine h1 _ _ ?_;clear h1;obtain⟨u,eu,hu1⟩:=m (cN ns (k+1)) b ⋯;obtain⟨e,T,hu2⟩:=m (cN ns (k+1)/8) (b-u) ⋯;walk_at "n";refine⟨o,ns,k+1,by push_cast;rfl,B,⋯,_,aN.of r,_,h0,_,rfl,by rw[ax];exact au ⋯,?_⟩;rw[ax,g];refine⟨_,rfl,⋯,?_⟩;rw[eu];refine h1 _ _ ?_;walk_at "nc";refine⟨o,ns,k+1,by push_cast;rfl,B,⋯,_,rfl,_,aN.of r,_,h0,_,rfl,by rw[ax];exact au ⋯,?_⟩;rw[ax,g];refine⟨⋯,?_⟩;rw[show(b:Int)-(u:Int)=((b-u:Nat):Int) by omega,T];refine h1 _ _ ?_;walk_at "nc";have S:gS (ao p) (some (t:Int)) (some ((t:Int)+1+(d:Int)))=ao ((p.drop t).take (t+1+d-t)):=by
   unfold gS;rw[show((t:Int)+1+(d:Int))=((t+1+d:Nat):Int) by push_cast;rfl,HT.sIx_nat,HT.sIx_nat,aj,c.rc.1,KS ⋯,KS ⋯];unfold ao;rw[List.map_take,List.map_drop]
  refine⟨_,aN.of r,λl1 O=>?_⟩;rw[S];generalize C:aD H l1 _=H1;obtain⟨s1,e1⟩:=dU O C;refine⟨⟨_,aN.of e1⟩,?_⟩;have G:∀row∈(p.drop t).take (t+1+d-t),row.length=b:=λrow hr=>c.rc.2 row (q0I (q0H hr));refine c7 (as:=(p.drop t).take (t+1+d-t)) (emb:=λrow=>V.str (tx row)) (f:=λrow=>some (V.str (tx ((row.drop u).take (u+1+e-u))))) (λσ=>∃x,σ=[x,some (V.int (u:Int)),some (V.int ((u:Int)+1+(e:Int)))]) ⟨_,rfl⟩ (λH2 l=>aN.of (l _ _ e1)) (by rw[KA,KC,c.rc.1];omega) ?_ ?_
  ·rintro j row J σ H2 M1 M0 ⟨y,rfl⟩ l k1 k0
   have hb:=G row (J2 J);walk_at "wp";refine⟨by rw[ax];exact au ⋯,?_⟩;rw[show((u:Int)+1+(e:Int))=((u+1+e:Nat):Int) by push_cast;rfl,ft,HT.sIx_nat,HT.sIx_nat,hb,KS ⋯,KS ⋯];exact k1 _ _ _ rfl l ⟨_,rfl⟩
  ·intro H2 l Y M
   rw[e_];have er:((p.drop t).take (t+1+d-t)).map (λrow=>V.str (tx ((row.drop u).take (u+1+e-u))))=ao (cut p t u (t+1+d) (u+1+e)):=by unfold ao cut;rw[Ka];rfl
   rw[er];refine h1 _ _ ?_;clear h1;generalize C:aD H2 Y _=H3;obtain⟨s3,e3⟩:=dU M C;have D:=s1.trans (l.trans s3);have I:=cB c.rc (show t<t+1+d by omega) (show t+1+d<=a by omega) (show u<u+1+e by omega) (show u+1+e<=b by omega);obtain⟨v,ev,Z⟩:=m (cN ns k/64) 8 ⋯;walk_at "wp";refine⟨o,ns,k,rfl,D.seq B,⋯,_,rfl,?_⟩;rw[show cN ns k/64%8=(v:Int) from ev];exact⟨Y,_,_,_,v,rfl,e3,I,⋯,⋯,⋯,⋯,Z,λl4 H4 L e4 s4=>q l4 _ H4 (D.free L) e4 ⟨t,u,t+1+d,u+1+e,v,⋯,⋯,⋯,⋯,Z,rfl⟩ (D.trans s4)⟩
section
variable {X:Cx}
def Fq:List V->Hp->VK->Prop:=λxs H Q=>∃b,xs=[.bl b]/\Q (.int (if b=true then 1 else 0)) H
theorem uX:eQ X (.type "int") Fq:=by
 intro pins s σ H xs us Q I r h;obtain⟨b,rfl,q⟩:=h;obtain⟨u,rfl,a⟩:=nB r;obtain rfl:u=Value.bool b:=a;exact PySem.call_int_bool ⟨.int _,H,I.tok _,⟨_,rfl⟩,q⟩
end
def lA(l:Addr)(H0 H:Hp)(b:Addr)(y:List Ky):Prop:=b≠l/\H0 b=none/\iA H b y
theorem lA.up{l:Addr}{H0 H H':Hp}{b:Addr}{y:List Ky}(h:lA l H0 H b y)(s:aB H H'):lA l H0 H' b y:=⟨h.1,h.2.1,ig h.2.2 s⟩
theorem lA.put{l:Addr}{H0 H:Hp}{b:Addr}{y:List Ky}{xs:List V}{o:HO}(h:lA l H0 H b y)(hl:H l=some (.lst xs)):lA l H0 (aD H l o) b y:=⟨h.1,h.2.1,mS h.2.2 hl h.1⟩
theorem wT{row:K0}{n:Nat}(h:n<=row.length):Txt.slice (tx row) none (some (n:Int))=tx (row.take n):=by
 rw[ft,HT.sIx_nat,KS h];show tx ((row.drop 0).take (n-0))=_;rw[KU,Nat.sub_zero]
theorem rV{row:K0}{n:Nat}(h:n<=row.length):Txt.slice (tx row) (some (n:Int)) none=tx (row.drop n):=by
 rw[ft,HT.sIx_nat,KS h];show tx ((row.drop n).take (row.length-n))=_;rw[q0F (by rw[KC];omega)]
abbrev ow:Stmt:=fP 67
inductive qp(K:W.Frag)(vs:List V)(H:Hp)(Q:VK)(_E:XK):Prop
 |mk (t lp:Addr) (x:Nat×RV) (p:aO) (a b:Nat) (_:vs=[.ref t,.ref lp]) (_:H t=some (.tup (oY x))) (_:lT x) (_:H lp=some (.lst (ao p))) (_:fG p a b) (_:∀l H',H l=none->jE (lB H) H' l (bL x p)->aB H H'->Q (.ref l) H')
theorem yT:aE ["_law_rule","_law_picture","_law_kind","_law_name","_law_cost","_law_one","_law_other","_law_found","_law_at","_law_first"] ["_law_rule","_law_picture"] (av ow):=by walk_at "c"
theorem A7{v:RV}(h:iw v.sg=true):∃g,v.sg=[g]:=by
 unfold iw at h;rw[q0O,q0b]at h;exact List.length_eq_one_iff.mp h.1
theorem CU{p:aO}{a b:Nat}{g:Nat}(h:fG p a b):decide (p.map tx=[tx [g]])=decide (bC p=[g]):=by
 by_cases e:p=[[g]]
 ·subst e
  rw[q09 (show[[g]].map tx=[tx [g]] from rfl),q09 (show bC [[g]]=[g] from rfl)]
 ·rw[q08,q08]
  ·intro c
   match p,h.rc,c with
   | [],hr,_=>have:=hr.1;have:=h.a1;simp at *;omega
   | [row],hr,c=>exact e (by rw[show row=[g] from c])
   |row::row'::bY,hr,c=>
    have j:row++47::bC (row'::bY)=[g]:=c;have i:=q0R List.length j;have hb:=hr.2 row (by simp);have:=h.b1;rw[Ki,J9]at i;simp at i;omega
  ·intro d
   match p,d with
   | [row],d=>
    have:tx row=tx [g]:=by injection d
    exact e (by rw[dB this])
theorem yJ{f:Addr}{fd:K5}(F:dr K "_law_uses" "_law_uses" ow f fd)(nb:NB mg)(zja:dG P w K mg base bD 1 "_law_text" ["_law_picture"] (kZ K))(zXb:dG P w K mg base bD 1 "_law_back" ["_law_t"] pS)(zia:dG P w K mg base bD 1 "_law_turned" ["_law_picture","_law_t"] (fR K)):br P w K mg base bD 2 f fd ["_law_rule","_law_picture"] (qp K):=by
 have sc:=yT;walk_at "f"
 ·obtain⟨t,lp,x,p,a,b,rfl,ht,hg,hp,u,q⟩:=h
  have hu:=hr.units;obtain⟨k,v⟩:=x;have g:v.good:=hg.good;refine⟨_,(ae (wK (am 0) (iT (n:=5) rfl (bf (q02 2 sc.nd) (bf (q02 3 sc.nd) (bf (q02 4 sc.nd) (bf (q02 5 sc.nd) (bf (q02 6 sc.nd) dQ)))))))
   (ae (bJ (aL dm (am 2) ai (aQ _))
   (ag (aK (bZ ["_law_k"] [] rfl (bE.of (by kernel_rfl)) (by kernel_rfl) (cn rfl nb.range (ac (cU uX rfl nb.int BN (ac (sr (EC hu) (am 1) (bz (ac (am 5) ad)) (aQ _)) ad)) ad))
    (λ_ _ _ _=>(ay (i:=0) (by show(["_law_k"]:List Str).Nodup;decide +kernel) rfl (Or.inl rfl))) (λ_ _ _ _=>bW) (λ_ _ _ _=>(bz ad)))))
   aV)
   (ae (bJ (aL dm (am 2) ai (aQ _))
   (ag (aK (bz (ac (bz (ac (bN (ac (q00 zja hr (ac (q00 zia hr (ac (am 1) (ac (q00 zXb hr (ac (am 6) ad)) ad))) ad)) (ac (am 5) ad))) ad)) ad))))
   aV)
   (ae (q01 7 sc.nd (bz ad))
   (ae (bJ (aL dm (am 2) ai (aQ _))
   (ag (bg PassesOwn.never rfl (gF rfl nb.range (b7 (ac (aA aT rfl nb.len aW (ac (aU aY (am 1) ai (λ_ _=>rfl)) ad)) ad))) (ay (i:=8) sc.nd rfl (Or.inr rfl))
   (ae (q01 9 sc.nd (q00 zja hr (ac (bZ ["_law_row"] [8] rfl (bE.of (by kernel_rfl)) (by kernel_rfl) (bi (am 1))
    (λ_ _ _ _=>(ay (i:=0) (by show(["_law_row","_law_at"]:List Str).Nodup;decide +kernel) rfl (Or.inl rfl))) (λ_ _ _ _=>bW) (λ_ _ _ _=>(cH jN (am 0) d_ (cE (am 1))))) ad)))
   (ag (bo (q03 (am 7) (ac (bz (ac (bN (ac (am 9) (ac (am 5) ad))) (ac (bN (ac (q00 zja hr (ac (bZ ["_law_row"] [8] rfl (bE.of (by kernel_rfl)) (by kernel_rfl) (bi (am 1))
    (λ_ _ _ _=>(ay (i:=0) (by show(["_law_row","_law_at"]:List Str).Nodup;decide +kernel) rfl (Or.inl rfl))) (λ_ _ _ _=>bW) (λ_ _ _ _=>(cH jN (am 0) (cE (am 1)) d_))) ad)) (ac (am 6) ad))) ad))) ad)))))))
   (ag (bg PassesOwn.never rfl (gF rfl nb.range (b7 (ac (aA aZ rfl nb.len aW (ac (am 1) ad)) ad))) (ay (i:=8) sc.nd rfl (Or.inr rfl))
   (ag (bo (q03 (am 7) (ac (bz (ac (bN (ac (q00 zja hr (ac (cH hZ (am 1) d_ (cE (am 8))) ad)) (ac (am 5) ad))) (ac (bN (ac (q00 zja hr (ac (cH hZ (am 1) (cE (am 8)) d_) ad)) (ac (am 6) ad))) ad))) ad)))))))
   (ag (aK (am 7)))))))),?_⟩
  refine aq λN1 h1=>?_;have sq:=dt.of (K:=K) ht;have a1:=u.a1;have b1:=u.b1;have a6:=u.a6;have b6:=u.b6;obtain⟨b3,a5⟩:=cT u.rc (show 0<a from u.a1);have h0:iC (ao p) 0=some (V.str (tx p[0])):=(show iC _ ((0:Nat):Int)=_ from bx (ba b3));have B:c4 p:=c4.of u.rc ⋯ ⋯;walk_at "wp";rcases dZ hg.k4 with e | e | e | e<;>(simp only at e;subst e)
  ·change dt K H t [.int 0,.str (tx v.n),.int v.c,.str (tx v.sg),.str ""]at sq
   refine⟨_,sq,rfl,_,_,rfl,_,_,rfl,_,_,rfl,_,_,rfl,_,_,rfl,rfl,h1 _ _ ?_⟩;clear h1;obtain⟨gs,a9⟩:=A7 g.sg;walk_at "n";refine⟨au (by decide),λl1 a8=>?_⟩;generalize d:aD H l1 _=H1;obtain⟨D,e1⟩:=dU a8 d;refine⟨lp,l1,p.map tx,[tx v.sg],rfl,rfl,by rw[<- fA];exact aN.of (D _ _ hp),aN.of e1,?_⟩;rw[a9,CU u];refine⟨_,rfl,_,rfl,by split<;>omega,by split<;>omega,?_⟩;have I:bL (0,v) p=List.replicate (if decide (bC p=[gs])=true then 1 else 0:Int).toNat []:=by
    show(if bC p=v.sg then[[]] else[])=_;rw[a9]
    by_cases h:bC p=[gs]
    ·rw[q07 h,q07 (by simpa using h)];rfl
    ·rw[q06 h,q06 (by simpa using h)];rfl
   generalize hn:(if decide (bC p=[gs])=true then 1 else 0:Int).toNat=n at I ⊢;have hn1:n<=1:=by rw[<- hn];split<;>decide
   refine jW (lo:=0) (n:=n) (λi T σ G=>aB H1 G/\i<=n/\(∃bs:List Addr,T=bs.map V.ref/\aS (lB H) G bs (List.replicate i []))/\∃x,σ=[x]) ⟨λ_ _ h=>h,Kk _,⟨[],rfl,aS.nil⟩,_,rfl⟩ ?_ ?_ ?_ ?_
   ·rintro i T σ G ⟨_,hi,⟨bs,rfl,M⟩,_⟩
    have:=M.1;rw[List.length_replicate]at this;rw[JZ];exact aX ⋯
   ·rintro i T σ G ⟨_,hi,_⟩
    exact hi
   ·rintro i T σ G hi ⟨z,_,⟨bs,rfl,M⟩,x,rfl⟩
    walk_at "wp";refine⟨Kk _,λl2 r=>⟨z.trans (ak r),hi,⟨bs++[l2],by rw[J_];rfl,?_⟩⟩⟩;rw[show([]::List.replicate i [])=List.replicate i ([]:List Ky)++[[]] from(q0c (n:=i)).symm.trans List.replicate_succ'];exact(M.mono λb y _ _ h=>⟨h.1,ig h.2 (ak r)⟩).snoc ⟨D.free (z.free r),[],af,aS.nil⟩
   ·rintro T σ G ⟨z,_,⟨bs,rfl,M⟩,x,rfl⟩ l2 r
    exact q l2 _ (D.free (z.free r)) ⟨bs,af,by rw[I];exact M.mono λb y _ _ h=>⟨h.1,ig h.2 (ak r)⟩⟩ (D.trans (z.trans (ak r)))
  ·change dt K H t [.int 1,.str (tx v.n),.int v.c,.str (tx v.o1),.str (tx v.o2)]at sq
   refine⟨_,sq,rfl,_,_,rfl,_,_,rfl,_,_,rfl,_,_,rfl,_,_,rfl,rfl,h1 _ _ ?_⟩;walk_at "nc";rw[q06 (by decide)];refine h1 _ _ ?_;walk_at "nc";rw[q06 (by decide)];refine h1 _ _ ?_;walk_at "nc";refine⟨Kk _,λl hl=>h1 _ _ ?_⟩;clear h1;generalize d:aD H l _=H1;obtain⟨D,e1⟩:=dU hl d;walk_at "n";refine⟨_,aN.of (D _ _ hp),_,h0,_,rfl,by rw[ax];exact au ⋯,by decide,⋯,by rw[ax];omega,?_⟩;rw[ax,a5,show((b:Int)-1).toNat=b-1 by omega];have I:bL (1,v) p=(List.range (b-1)).map λi=>[(bC (p.map (List.take (i+1))),v.o1),(bC (p.map (List.drop (i+1))),v.o2)]:=by
    show(bP true p (p.headD []).length).map _=_;unfold bP;rw[bc u.rc (show 0<a by omega),Ka];rfl
   refine cr (lo:=1) (n:=b-1) (λi σ G=>aB H G/\(∃bs:List Addr,G l=some (.lst (bs.map V.ref))/\bs.length=i/\aS (lA l H) G bs ((List.range i).map λi=>[(bC (p.map (List.take (i+1))),v.o1),(bC (p.map (List.drop (i+1))),v.o2)]))/\∃x8 x9,σ=[some (V.ref t),some (V.ref lp),some (V.int 1),some (V.str (tx v.n)),some (V.int v.c),some (V.str (tx v.o1)),some (V.str (tx v.o2)),some (V.ref l),x8,x9]) ⟨D,⟨[],e1,rfl,aS.nil⟩,_,_,rfl⟩ ?_ ?_
   ·rintro i σ H2 hi ⟨z,⟨bs,hb,S,M⟩,x8,x9,rfl⟩
    have J:=z _ _ hp;have O:∀j,c4 (p.map (List.take j))/\c4 (p.map (List.drop j)):=λj=>⟨⟨by rw[JZ];exact B.1,λx hx=>by
      obtain⟨y,hy,rfl⟩:=KI.mp hx;rw[KA];exact Ks (Nat.min_le_right _ _) (B.2 y hy)⟩,⟨by rw[JZ];exact B.1,λx hx=>by
      obtain⟨y,hy,rfl⟩:=KI.mp hx;rw[KC];exact Ks (Nat.sub_le _ _) (B.2 y hy)⟩⟩
    walk_at "n";refine⟨⟨_,aN.of J⟩,?_⟩;refine c7 (as:=p) (emb:=λrow=>V.str (tx row)) (f:=λrow=>some (V.str (tx (row.take (i+1))))) (λσ=>∃x,σ=[x,some (V.int (1+(i:Int)))]) ⟨_,rfl⟩ (λH3 s3=>aN.of (s3 _ _ J)) (by rw[u.rc.1];omega) ?_ ?_
    ·rintro j row a2 σ H3 M1 M0 ⟨y,rfl⟩ s3 k1 k0
     have c0:=u.rc.2 row (J2 a2);walk_at "wp";refine⟨by rw[ax];exact au ⋯,?_⟩;rw[show(1+(i:Int))=((i+1:Nat):Int) by push_cast;rw[Int.add_comm],wT ⋯];exact k1 _ _ _ rfl s3 ⟨_,by push_cast;rw[Int.add_comm]⟩
    ·intro H3 s3 l3 L
     rw[e_,show p.map (λrow=>V.str (tx (row.take (i+1))))=ao (p.map (List.take (i+1))) by unfold ao;rw[Ka];rfl];generalize d:aD H3 l3 _=H4;obtain⟨Y,e4⟩:=dU L d;refine⟨l3,_,rfl,e4,(O _).1,h1 _ _ ?_⟩;clear h1;have sB:=s3.trans Y;have b2:=sB _ _ J;have a4:=sB _ _ hb;have c1:=M.mono λb y _ _ (h:lA l H H2 b y)=>h.up sB;walk_at "wp";refine⟨.inl ⟨rfl,_,aN.of a4⟩,au (by decide),λU R=>?_⟩;generalize d:aD H4 U _=H5;obtain⟨s5,(e5:bu H5 U (bC (p.map (List.take (i+1))),v.o1))⟩:=dU R d;have a7:=s5 _ _ b2;refine⟨⟨_,aN.of a7⟩,?_⟩;refine c7 (as:=p) (emb:=λrow=>V.str (tx row)) (f:=λrow=>some (V.str (tx (row.drop (i+1))))) (λσ=>∃x,σ=[x,some (V.int (1+(i:Int)))]) ⟨_,rfl⟩ (λH6 s6=>aN.of (s6 _ _ a7)) (by rw[u.rc.1];omega) ?_ ?_
     ·rintro j row a2 σ H6 M1 M0 ⟨y,rfl⟩ s6 k1 k0
      have c0:=u.rc.2 row (J2 a2);walk_at "wp";refine⟨by rw[ax];exact au ⋯,?_⟩;rw[show(1+(i:Int))=((i+1:Nat):Int) by push_cast;rw[Int.add_comm],rV ⋯];exact k1 _ _ _ rfl s6 ⟨_,by push_cast;rw[Int.add_comm]⟩
     ·intro H6 s6 l7 a3
      rw[e_,show p.map (λrow=>V.str (tx (row.drop (i+1))))=ao (p.map (List.drop (i+1))) by unfold ao;rw[Ka];rfl];generalize d:aD H6 l7 _=H7;obtain⟨s7,e7⟩:=dU a3 d;refine⟨l7,_,rfl,e7,(O _).2,au (by decide),λt2 a0=>?_⟩;generalize d:aD H7 t2 _=H8;obtain⟨Z,(e8:bu H8 t2 (bC (p.map (List.drop (i+1))),v.o2))⟩:=dU a0 d;refine⟨au (by decide),λl9 m=>?_⟩;generalize d:aD H8 l9 _=H9;obtain⟨s9,e9⟩:=dU m d;have sC:=s5.trans (s6.trans (s7.trans (Z.trans s9)));have C:=sC _ _ a4;refine⟨_,C,by rw[JZ];exact aX ⋯,bK (z.trans (sB.trans sC)) hl,bs++[l9],by rw[af,J_];rfl,by rw[Ki,S];rfl,?_⟩;rw[q0M,J_];refine(c1.mono λb y _ _ (h:lA l H H4 b y)=>(h.up sC).put C).snoc (lA.put ⟨λe=>?_,z.free (sB.free (s5.free (s6.free (s7.free (Z.free m))))),[U,t2],e9,aS.two (((e5.up s6).up s7).up Z |>.up s9) (e8.up s9)⟩ C);rw[e]at m;rw[(s5.trans (s6.trans (s7.trans Z))) _ _ a4]at m;cases m
   ·rintro σ H2 ⟨z,⟨bs,hb,S,M⟩,x8,x9,rfl⟩
    refine h1 _ _ ?_;walk_at "wp";exact q l H2 hl ⟨bs,hb,by rw[I];exact M.mono λb y _ _ h=>⟨h.2.1,h.2.2⟩⟩ z
  ·change dt K H t [.int 2,.str (tx v.n),.int v.c,.str (tx v.o1),.str (tx v.o2)]at sq
   refine⟨_,sq,rfl,_,_,rfl,_,_,rfl,_,_,rfl,_,_,rfl,_,_,rfl,rfl,h1 _ _ ?_⟩;walk_at "nc";rw[q06 (by decide)];refine h1 _ _ ?_;walk_at "nc";rw[q06 (by decide)];refine h1 _ _ ?_;walk_at "nc";refine⟨Kk _,λl hl=>h1 _ _ ?_⟩;clear h1;generalize d:aD H l _=H1;obtain⟨D,e1⟩:=dU hl d;walk_at "n";refine⟨_,aN.of (D _ _ hp),by decide,⋯,by rw[aj,u.rc.1];omega,?_⟩;rw[aj,u.rc.1,show((a:Int)-1).toNat=a-1 by omega];have I:bL (2,v) p=(List.range (a-1)).map λi=>[(bC (p.take (i+1)),v.o1),(bC (p.drop (i+1)),v.o2)]:=by
    show(bP false p p.length).map _=_;unfold bP;rw[u.rc.1,Ka];rfl
   refine cr (lo:=1) (n:=a-1) (λi σ G=>aB H G/\(∃bs:List Addr,G l=some (.lst (bs.map V.ref))/\bs.length=i/\aS (lA l H) G bs ((List.range i).map λi=>[(bC (p.take (i+1)),v.o1),(bC (p.drop (i+1)),v.o2)]))/\∃x8 x9,σ=[some (V.ref t),some (V.ref lp),some (V.int 2),some (V.str (tx v.n)),some (V.int v.c),some (V.str (tx v.o1)),some (V.str (tx v.o2)),some (V.ref l),x8,x9]) ⟨D,⟨[],e1,rfl,aS.nil⟩,_,_,rfl⟩ ?_ ?_
   ·rintro i σ H2 hi ⟨z,⟨bs,hb,S,M⟩,x8,x9,rfl⟩
    have J:=z _ _ hp;have O:∀j,c4 (p.take j)/\c4 (p.drop j):=λj=>⟨⟨by rw[KA];exact Ks (Nat.min_le_right _ _) B.1,λx hx=>B.2 x (q0H hx)⟩,⟨by rw[KC];exact Ks (Nat.sub_le _ _) B.1,λx hx=>B.2 x (q0I hx)⟩⟩;have ct:gS (ao p) none (some (1+(i:Int)))=ao (p.take (i+1)):=by
     rw[show(1+(i:Int))=((i+1:Nat):Int) by push_cast;rw[Int.add_comm]];unfold gS;rw[HT.sIx_nat,HT.sIx_none,aj,u.rc.1,KS ⋯,KU,Nat.sub_zero];unfold ao;rw[List.map_take]
    have cd:gS (ao p) (some (1+(i:Int))) none=ao (p.drop (i+1)):=by
     rw[show(1+(i:Int))=((i+1:Nat):Int) by push_cast;rw[Int.add_comm]];unfold gS;rw[HT.sIx_nat,HT.sIx_none,aj,u.rc.1,KS ⋯,q0F (by rw[KC,aj,u.rc.1];exact Kj _)];unfold ao;rw[List.map_drop]
    walk_at "wp";refine⟨.inl ⟨rfl,_,aN.of hb⟩,_,aN.of J,λl3 L=>?_⟩;rw[ct];generalize d:aD H2 l3 _=H4;obtain⟨Y,e4⟩:=dU L d;refine⟨l3,_,rfl,e4,(O _).1,au (by decide),λU R=>?_⟩;generalize d:aD H4 U _=H5;obtain⟨s5,(e5:bu H5 U (bC (p.take (i+1)),v.o1))⟩:=dU R d;refine⟨_,aN.of ((Y.trans s5) _ _ J),λl7 a3=>?_⟩;rw[cd];generalize d:aD H5 l7 _=H7;obtain⟨s7,e7⟩:=dU a3 d;refine⟨l7,_,rfl,e7,(O _).2,au (by decide),λt2 a0=>?_⟩;generalize d:aD H7 t2 _=H8;obtain⟨Z,(e8:bu H8 t2 (bC (p.drop (i+1)),v.o2))⟩:=dU a0 d;refine⟨au (by decide),λl9 m=>?_⟩;generalize d:aD H8 l9 _=H9;obtain⟨s9,e9⟩:=dU m d;have sC:=Y.trans (s5.trans (s7.trans (Z.trans s9)));have C:=sC _ _ hb;refine⟨_,C,by rw[JZ];exact aX ⋯,bK (z.trans sC) hl,bs++[l9],by rw[af,J_];rfl,by rw[Ki,S];rfl,?_⟩;rw[q0M,J_];refine(M.mono λb y _ _ (h:lA l H H2 b y)=>(h.up sC).put C).snoc (lA.put ⟨λe=>?_,z.free (Y.free (s5.free (s7.free (Z.free m)))),[U,t2],e9,aS.two ((e5.up s7).up Z |>.up s9) (e8.up s9)⟩ C);rw[e]at m;rw[(Y.trans (s5.trans (s7.trans Z))) _ _ hb]at m;cases m
   ·rintro σ H2 ⟨z,⟨bs,hb,S,M⟩,x8,x9,rfl⟩
    refine h1 _ _ ?_;walk_at "wp";exact q l H2 hl ⟨bs,hb,by rw[I];exact M.mono λb y _ _ h=>⟨h.2.1,h.2.2⟩⟩ z
  ·change dt K H t [.int 3,.str (tx v.n),.int v.c,.str (tx v.o1),.int v.t]at sq
   refine⟨_,sq,rfl,_,_,rfl,_,_,rfl,_,_,rfl,_,_,rfl,_,_,rfl,rfl,h1 _ _ ?_⟩;walk_at "nc";rw[q06 (by decide)];refine h1 _ _ ?_;walk_at "nc";have t0:=g.t0;have t7:=g.t7;have b4:=jb (show v.t.toNat<8 by omega);refine⟨v.t.toNat,by rw[KR t0],⋯,lp,p,a,b,cY v.t.toNat,rfl,hp,u.rc,⋯,⋯,⋯,⋯,b4,λl1 H1 a8 e1 D=>?_⟩;have b0:=cF u.rc (show 0<a by omega) (show 0<b by omega) (cY v.t.toNat);refine⟨l1,_,rfl,e1,c4.of b0 (by split<;>omega) (by split<;>omega),au (by decide),λU R=>⟨au (by decide),λl2 r=>⟨au (by decide),λl3 L=>?_⟩⟩⟩;have s2:=ak (o:=.tup [V.str (tx (bC (turned p (cY v.t.toNat)))),V.str (tx v.o1)]) R;have s3:=ak (o:=.lst [V.ref U]) r;have Y:=ak (o:=.lst [V.ref l2]) L;refine q l3 _ (D.free (s2.free (s3.free L))) ⟨[l2],af,aS.one ⟨D.free (s2.free r),[U],Y _ _ af,aS.one ?_⟩⟩ (D.trans (s2.trans (s3.trans Y)));show _=_;exact Y _ _ (s3 _ _ af)
def Dx(xs ys:List Int):Prop:=ys.Perm xs/\ys.Pairwise (·<=·)
def fM(T:Ky->Option Int)(rs:Yaa)(p:aO)(n:K0):List Int:=rs.flatMap λx=>if x.2.n=n then(bL x p).filterMap λw=>bS T x.2.c w else[]
theorem Ez{x:Nat×RV}(h:x.1<4):iC (oY x) 1=some (.str (tx x.2.n))/\iC (oY x) 2=some (.int x.2.c):=by
 obtain⟨k,v⟩:=x;rcases dZ h with e | e | e | e<;>(simp only at e;subst e)<;>exact⟨rfl,rfl⟩
theorem j9(T:Ky->Option Int):∀(way:List Ky) (c:Int),bS T c way=if(way.all λk=>(T k).isSome)=true then some (c+(way.map λk=>(T k).getD 0).sum) else none
 | [],c=>by simp[bS]
 |k::way,c=>by
  show(match T k with | none=>none | some v=>bS T (c+v) way)=_;cases h:T k with
  |none=>simp[h]
  |some v=>
   show bS T (c+v) way=_;rw[j9 T way (c+v)];simp only[List.all_cons,h,Option.isSome_some,Bool.true_and,Kq,q0L,List.sum_cons]
   split
   ·rw[Int.add_assoc]
   ·rfl
theorem xE{H:Hp}{d b:Addr}{o:Obj}{tb:Tb}{k:Ky}(hd:H d=some (.frz o (.dT (tb.map eO))))(hb:bu H b k):kN H d (.ref b) ((aM tb k).map V.int):=.inr ⟨tb.map eO,fD k,b,.inr ⟨o,hd⟩,rfl,hb,(kx tb k).symm⟩
theorem xb{α:Type}:∀{bs:K3} {ys:List α},bs.length=ys.length->(bs.zip ys).map (λx=>V.ref x.1)=bs.map V.ref
 | [],[],_=>rfl
 |b::bs,y::ys,h=>by rw[List.zip_cons_cons,Kq,Kq,xb (Nat.succ.inj h)]
theorem CV{x:Nat×RV}{p:aO}{j:Nat}{way:List Ky}(h4:x.1<4)(h:(bL x p)[j]?=some way):way.length<=2:=by
 obtain⟨k,v⟩:=x;have a:=J2 h;rcases dZ h4 with h | h | h | h<;>(simp only at h;subst h)
 ·have a:way∈(if bC p=v.sg then[[]] else[]):=a
  split at a<;>simp at a
  subst a;simp
 ·obtain⟨_,_,rfl⟩:=KI.mp (show way∈(bP true p (p.headD []).length).map _ from a)
  exact Kj _
 ·obtain⟨_,_,rfl⟩:=KI.mp (show way∈(bP false p p.length).map _ from a)
  exact Kj _
 ·have a:way∈([[_]]:List (List Ky)):=a
  simp at a;subst a;simp
theorem wc{α:Type}(g:α->V):∀{bs:K3} {ys:List α},bs.length=ys.length->(bs.zip ys).filterMap (λx=>some (g x.2))=ys.map g
 | [],[],_=>rfl
 |b::bs,y::ys,h=>by
  show(List.filterMap (λx:Addr×α=>some (g x.2)) ((b,y)::bs.zip ys))=_;have:=wc g (bs:=bs) (ys:=ys) (Nat.succ.inj h);simp only[q0U,this,Kq]
abbrev lL:Stmt:=fP 68
inductive nu(K:W.Frag)(vs:List V)(H:Hp)(Q:VK)(_E:XK):Prop
 |mk (lr d lp:Addr) (ts:K3) (rs:Yaa) (tb:Tb) (o:Obj) (p:aO) (a b:Nat) (n:K0) (_:vs=[.ref lr,.ref d,.ref lp,.str (tx n)]) (_:cX H lr ts rs) (_:(∀x∈rs,lT x)) (_:rs.length<=24) (_:H d=some (.frz o (.dT (tb.map eO)))) (_:H lp=some (.lst (ao p))) (_:fG p a b) (_:∀l ys H',H l=none->H' l=some (.lst (ys.map V.int))->Dx (fM (aM tb) rs p n) ys->aB H H'->Q (.ref l) H')
theorem wN:aE ["_law_rules","_law_told","_law_picture","_law_name","_law_found","_law_rule","_law_use"] ["_law_rules","_law_told","_law_picture","_law_name"] (av lL):=by walk_at "c"
theorem vx{f:Addr}{fd:K5}(F:dr K "_law_costs" "_law_costs" lL f fd)(nb:NB mg)(ybf:mg "sum"=none)(zYb:dG P w K mg base bD 2 "_law_uses" ["_law_rule","_law_picture"] (qp K)):br P w K mg base bD 3 f fd ["_law_rules","_law_told","_law_picture","_law_name"] (nu K):=by
 have sc:=wN;walk_at "f"
 ·obtain⟨lr,d,lp,ts,rs,tb,o,p,a,b,n,rfl,hR,hg,r24,hd,hp,hP,q⟩:=h
  have hu:=hr.units;refine⟨_,(ae (q01 4 sc.nd (bz ad))
   (ae (bg PassesOwn.never rfl (bi (am 0)) (q02 5 sc.nd)
   (ag (bJ (aL dm (aU bH (am 5) ai (λ_ _=>rfl)) (am 3) (aQ _))
   (ag (bg PassesOwn.never rfl (bi (q00 zYb hr (ac (am 5) (ac (am 2) ad)))) (q02 6 sc.nd)
   (ag (bJ (eS (aA (tN rfl) rfl nb.all AC (ac (bZ ["_law_key"] [1] rfl (bE.of (by kernel_rfl)) (by kernel_rfl) (bi (am 6))
    (λ_ _ _ _=>(ay (i:=0) (by show(["_law_key","_law_told"]:List Str).Nodup;decide +kernel) rfl (Or.inl rfl))) (λ_ _ _ _=>bW) (λ_ _ _ _=>(Ec (vL (KG (KL (by decide:1<=64) _) hu) (am 0) (am 1)) (by with_unfolding_all rfl)))) ad)) λ_=>rfl)
   (ag (bo (q03 (am 4) (ac (aw (bj.m0 bO) (aU bH (am 5) ai (λ_ _=>rfl)) (aA (yb rfl) rfl ybf Ej (ac (bZ ["_law_key"] [1] rfl (bE.of (by kernel_rfl)) (by kernel_rfl) (bi (am 6))
    (λ_ _ _ _=>(ay (i:=0) (by show(["_law_key","_law_told"]:List Str).Nodup;decide +kernel) rfl (Or.inl rfl))) (λ_ _ _ _=>bW) (λ_ _ _ _=>(ik (KG (KL (by decide:1<=64) _) hu) (am 1) (am 0) (λ_ _=>rfl)))) ad))) ad))))
   aV))))
   aV)))
   (ag (aK (aA wR rfl nb.sorted y4 (ac (am 4) ad)))))),?_⟩
  walk_at "n";refine⟨Kk _,λl hl=>h1 _ _ ?_⟩;clear h1;generalize z0:aD H l _=H1;obtain⟨s1,e1⟩:=dU hl z0;walk_at "n";refine⟨⟨_,aN.of (s1 _ _ hR.1)⟩,?_⟩;have d4:=hR.2.1;refine bQ (xs:=ts.map V.ref) (λi σ z=>aB H z/\i<=ts.length/\(∃xs:List Int,z l=some (.lst (xs.map V.int))/\xs=fM (aM tb) (rs.take i) p n/\xs.length<=6*i)/\∃x5 T,σ=[some (V.ref lr),some (V.ref d),some (V.ref lp),some (V.str (tx n)),some (V.ref l),x5,T]) ⟨s1,Kk _,⟨[],e1,rfl,Kj _⟩,_,_,rfl⟩ (λi σ z _ h=>aN.of (h.1 _ _ hR.1)) ?_ ?_
  ·rintro i x0 σ z hx ⟨U,_,⟨xs,r,D,d2⟩,x5,T,rfl⟩
   rw[J1]at hx;obtain⟨t,ht,rfl⟩:=Kn.mp hx;have hi:=(JX.mp ht).1;obtain⟨x,G⟩:∃x,rs[i]?=some x:=⟨_,JW ⋯⟩;have J:=hg x (J2 G);have b0:=U _ _ (hR.2.2 i t x ht G);obtain⟨r1,r2⟩:=Ez J.k4;have a9:fM (aM tb) (rs.take (i+1)) p n=fM (aM tb) (rs.take i) p n++(if x.2.n=n then(bL x p).filterMap λw=>bS (aM tb) x.2.c w else[]):=by
    unfold fM;rw[q0E,G,List.flatMap_append];simp
   walk_at "wp";refine⟨_,dt.of b0,_,r1,by simp[yD],?_⟩
   by_cases e:x.2.n=n
   ·rw[q07 (by rw[e])]
    have d5:iE p a b:=⟨hP.rc,hP.a1,hP.a6,hP.b1,hP.b6⟩;refine⟨t,lp,x,p,a,b,rfl,b0,J,U _ _ hp,hP,λlw H2 b3 hW s2=>?_⟩;obtain⟨ws,a7,c2⟩:=hW;have hwl:=lF J.k4 d5;refine⟨lw,rfl,⟨_,aN.of a7⟩,?_⟩;have b2:lw≠l:=λe=>by rw[e,r]at b3;cases b3
    refine bQ (xs:=ws.map V.ref) (λj σ M=>aB H M/\M lw=some (.lst (ws.map V.ref))/\aS iA M ws (bL x p)/\(∀a∈ws,a≠l)/\j<=ws.length/\(∃O:List Int,M l=some (.lst (O.map V.int))/\O=fM (aM tb) (rs.take i) p n++((bL x p).take j).filterMap (λw=>bS (aM tb) x.2.c w)/\O.length<=6*i+j)/\∃T,σ=[some (V.ref lr),some (V.ref d),some (V.ref lp),some (V.str (tx n)),some (V.ref l),some (V.ref t),T])
     ⟨U.trans s2,a7,c2.mono λ_ _ _ _ h=>h.2,λa ha=>?_,Kk _,⟨xs,s2 _ _ r,by rw[D];simp,⋯⟩,_,rfl⟩ (λj σ M _ h=>aN.of h.2.1) ?_ ?_
    ·obtain⟨j,hj⟩:=List.mem_iff_getElem?.mp ha
     obtain⟨y,_,R⟩:=c2.get hj;exact λe=>by have:=R.1;rw[e,r]at this;cases this
    ·rintro j x0 σ M hx ⟨B,Z,u,I,_,⟨O,C,L,a5⟩,T,rfl⟩
     rw[J1]at hx;obtain⟨wa,a8,rfl⟩:=Kn.mp hx;obtain⟨g,S,d3⟩:=u.get a8;have hj:=(JX.mp a8).1;rw[q0E,S,List.filterMap_append,<- Kw,<- L];obtain⟨bs,a0,hA⟩:=d3;have ybc:=u.1;have hbl:bs.length<=2:=by rw[hA.1];exact CV J.k4 S
     have hz:=xb hA.1;have d9:=j9 (aM tb) g x.2.c;have hm:∀(k:Nat) y,(bs.zip g)[k]?=some y->bu M y.1 y.2:=λk y R=>by
      obtain⟨h1,h2⟩:=List.getElem?_zip_eq_some.mp R;obtain⟨y',d1,hk⟩:=hA.get h1;rw[d1]at h2;cases h2;exact hk
     walk_at "wp";refine⟨⟨_,aN.of a0⟩,?_⟩;have c6:∀z,aB M z->aN K z wa ((bs.zip g).map λx=>V.ref x.1):=λz s=>by rw[hz];exact aN.of (s _ _ a0)
     have a4:(bs.zip g).length<=1000000:=by rw[q0N];omega
     have c1:=B _ _ hd;refine c7 (as:=bs.zip g) (emb:=λx=>V.ref x.1) (f:=λx=>some (V.bl (aM tb x.2).isSome)) (λσ=>∃x,σ=[x,some (V.ref d)]) ⟨_,rfl⟩ c6 a4 ?_ ?_
     ·rintro k y R σ z N1 N0 ⟨x0,rfl⟩ s k1 k0
      walk_at "wp";refine⟨_,xE (s _ _ c1) (s _ _ (hm k y R)),?_⟩;rw[Option.isSome_map];exact k1 _ _ _ rfl s ⟨_,rfl⟩
     intro H4 s4 l4 d7;rw[wc (λk=>V.bl (aM tb k).isSome) hA.1];generalize z0:aD H4 l4 _=H5;obtain⟨s5,e5⟩:=dU d7 z0;have m:=s4.trans s5;have a2:=B.trans m;have W5:aS iA H5 ws (bL x p):=u.mono λ_ _ _ _ h=>ig h m;refine⟨g.map λk=>(aM tb k).isSome,by rw[Ka];exact aN.of e5,?_⟩;have e0:((g.map λk=>(aM tb k).isSome).all id)=g.all λk=>(aM tb k).isSome:=by rw[List.all_map];rfl
     rw[e0];rw[show(some g).toList.filterMap (λw=>bS (aM tb) x.2.c w)=(bS (aM tb) x.2.c g).toList by
      show List.filterMap _ [g]=_;cases h:bS (aM tb) x.2.c g<;>simp[h]]
     rw[d9]
     by_cases ha:(g.all λk=>(aM tb k).isSome)=true
     ·rw[q07 ha,q07 ha]
      refine⟨.inl ⟨rfl,_,aN.of (m _ _ C)⟩,_,dt.of (m _ _ (B _ _ (hR.2.2 i t x ht G))),_,r2,⟨_,aN.of (m _ _ a0)⟩,?_⟩;refine c7 (as:=bs.zip g) (emb:=λx=>V.ref x.1) (f:=λx=>some (V.int ((aM tb x.2).getD 0))) (λσ=>∃x,σ=[x,some (V.ref d)]) ⟨_,rfl⟩ (λz s=>c6 _ (m.trans s)) a4 ?_ ?_
      ·rintro k y R σ z N1 N0 ⟨x0,rfl⟩ s k1 k0
       have c9:y.2∈g:=(List.of_mem_zip (J2 R)).2;obtain⟨v,hv⟩:=Option.isSome_iff_exists.mp (KJ.mp ha y.2 c9);have c0:=xE ((m.trans s) _ _ c1) ((m.trans s) _ _ (hm k y R));rw[hv]at c0;walk_at "wp";refine⟨_,c0,k1 _ _ _ ?_ s ⟨_,rfl⟩⟩;rw[hv];rfl
      intro H6 s6 l6 d6;rw[wc (λk=>V.int ((aM tb k).getD 0)) hA.1];generalize z0:aD H6 l6 _=H7;obtain⟨s7,e7⟩:=dU d6 z0;have Y:=s6.trans s7;have a3:=m.trans Y;have h7:=a3 _ _ C;refine⟨g.map λk=>(aM tb k).getD 0,by rw[Ka];exact aN.of e7,_,rfl,_,h7,by rw[JZ];exact aX ⋯,bK (a2.trans Y) hl,by rw[ar b2];exact a3 _ _ Z,W5.mono λb y hb _ h=>mS (ig h Y) h7 (I b hb),I,hj,O++[x.2.c+(g.map λk=>(aM tb k).getD 0).sum],by rw[af,J_];rfl,rfl,by rw[Ki];simp;omega⟩
     ·rw[q06 ha,q06 ha]
      exact⟨a2,m _ _ Z,W5,I,hj,O,m _ _ C,by simp,⋯⟩
    ·rintro σ M ⟨B,Z,u,I,_,⟨O,C,L,a5⟩,T,rfl⟩
     rw[JZ,u.1,Kz]at L;rw[JZ]at a5;exact⟨B,hi,⟨O,C,by rw[a9,q07 e];exact L,by have:=u.1;omega⟩,_,_,rfl⟩
   ·rw[q06 (λh=>e (dB (by injection h)))]
    refine⟨U,hi,xs,r,?_,⋯⟩;rw[a9,q06 e,Kv];exact D
  ·rintro σ z ⟨U,_,⟨xs,r,D,d2⟩,x5,T,rfl⟩
   rw[JZ,d4,Kz]at D;refine h1 _ _ ?_;walk_at "wp";exact⟨xs,aN.of r,λzs pe pw l2 b4=>q l2 zs _ (U.free b4) af ⟨D▸pe,pw⟩ (U.trans (ak b4))⟩
theorem fG.turn{p:aO}{a b:Nat}(h:fG p a b)(t:Nat):∃a' b',fG (turned p t) a' b':=by
 have:=h.a1;have:=h.a6;have:=h.b1;have:=h.b6
 exact⟨_,_,cF h.rc h.a1 h.b1 t,by split<;>omega,by split<;>omega,by split<;>omega,by split<;>omega,pR h.rc h.a1 h.b1 h.ns t⟩
theorem Af{H:Hp}{l lp:Addr}{as:K3}{p:aO}(h:H lp=some (.lst (ao p)))(l0:0<p.length)(hl:H l=some (.lst (as.map V.ref))):lp≠l:=λe=>by
 rw[<- e,h]at hl;have e2:ao p=as.map V.ref:=by injection hl with hl;injection hl
 have b:=q0R (λl=>l[0]?) e2;rw[ba l0,J1]at b;cases as with
 |nil=>cases b
 |cons a as=>cases b
theorem BW{p q pq:aO}{k a b a' b':Nat}(hp:fG p a b)(hq:fG q a' b')(e:oB k p q=some pq):∃r c,rect pq r c/\1<=r/\1<=c/\r<=12/\c<=12/\bU pq:=by
 have:=hp.a1;have:=hp.a6;have:=hp.b1;have:=hp.b6;have:=hq.a6;have:=hq.b6
 unfold oB at e;rw[hp.rc.1,hq.rc.1,bc hp.rc hp.a1,bc hq.rc hq.a1]at e
 split at e
 ·rename_i h
  cases e;obtain⟨_,rfl⟩:=h;refine⟨_,_,uL hp.rc hq.rc,⋯,⋯,⋯,⋯,λrow hrow h47=>?_⟩;obtain⟨⟨x,y⟩,hxy,rfl⟩:=KI.mp (show row∈(p.zip q).map λx=>x.1++x.2 from hrow);obtain⟨hx,hy⟩:=List.of_mem_zip hxy;exact(J'.mp h47).elim (hp.ns x hx) (hq.ns y hy)
 ·split at e
  ·rename_i h
   cases e;obtain⟨_,rfl⟩:=h;exact⟨_,_,wQ hp.rc hq.rc,⋯,⋯,⋯,⋯,λrow hrow=>(J'.mp (show row∈p++q from hrow)).elim (hp.ns row) (hq.ns row)⟩
  ·cases e
theorem qB{zs:List tI}(h:0<zs.length)(z:Int):∃y,y∈zs/\iC (zs.map λz=>V.ref z.a) (z%((zs.map λz=>V.ref z.a).length:Int))=some (V.ref y.a):=by
 rw[JZ];obtain⟨j,b⟩:∃j:Nat,z%(zs.length:Int)=(j:Int):=⟨_,(KR (KP _ ⋯)).symm⟩;have a:j<zs.length:=by have:=KQ z (show(0:Int)<(zs.length:Int) by omega);omega
 exact⟨zs[j],J6 _,by rw[b];exact bx (by rw[J1,JW a];rfl)⟩
theorem sU{H:Hp}{l:Addr}{as:K3}{o:HO}{z:tI}{a b:Nat}(h:z.at H)(hp:fG z.p a b)(hl:H l=some (.lst (as.map V.ref))):z.at (aD H l o):=by
 refine⟨?_,?_⟩
 ·rw[ar (λe=>by rw[<- e,h.1]at hl;cases hl)];exact h.1
 ·rw[ar (Af h.2 (jQ hp).1.1 hl)];exact h.2
theorem rL{H:Hp}{a b:Addr}{xs:List V}{Q:VK}{neg:Bool}(ha:H a=some (.lst xs))(hb:H b=some (.lst []))(q:Q (.bl (xs.isEmpty != neg)) H):CQ K neg (.ref a) (.ref b) H Q:=by
 cases xs with
 |nil=>
  refine .inl ⟨[],by unfold Dt.deps;omega,.inl ⟨?_,?_⟩,by simpa using q⟩
  ·unfold ki;exact⟨a,_,rfl,aN.of ha,by unfold eF;rfl⟩
  ·unfold ki;exact⟨b,_,rfl,aN.of hb,by unfold eF;rfl⟩
 |cons x xs=>exact .inr ⟨a,b,_,_,rfl,rfl,aN.of ha,aN.of hb,by simp,by simpa using q⟩
structure zA(H:Hp)(p:aO)(r:K0)(lr lt:Addr)(ts:K3)(rs:Yaa)(zs:List tI):Prop where
 ne:lr≠lt
 ra:cX H lr ts rs
 ro:∀x∈rs,iF p r x
 ta:H lt=some (.lst (zs.map λz=>V.ref z.a))
 zt:∀z∈zs,z.at H/\z.nm∈p/\∃a b,fG z.p a b
theorem zA.up{H H':Hp}{p:aO}{r:K0}{lr lt:Addr}{ts:K3}{rs:Yaa}{zs:List tI}(g:zA H p r lr lt ts rs zs)(s:aB H H'):zA H' p r lr lt ts rs zs:=
 ⟨g.ne,g.ra.up s,g.ro,s _ _ g.ta,λz hz=>⟨(g.zt z hz).1.up s,(g.zt z hz).2⟩⟩
theorem zA.row{H:Hp}{p:aO}{r:K0}{lr lt a:Addr}{ts:K3}{rs:Yaa}{zs:List tI}{x:Nat×RV}{vals:List V}(g:zA H p r lr lt ts rs zs)(ha:H a=none)(hx:iF p r x)(ev:oY x=vals) :
  aD H a (.tup vals) lr=some (.lst (ts.map V.ref))/\zA (aD (aD H a (.tup vals)) lr (.lst (ts.map V.ref++[V.ref a]))) p r lr lt (ts++[a]) (rs++[x]) zs:=by
 subst ev;obtain⟨j,i,k⟩:=qM g.ra (λ_ _ e=>e) ha rfl;have d:=g.up j;refine⟨i,g.ne,k,λy m=>?_,?_,λz l=>?_⟩
 ·rcases J'.mp m with h | h
  ·exact g.ro y h
  ·rw[J0.mp h];exact hx
 ·rw[ar (Ne.symm g.ne)];exact d.ta
 ·obtain⟨h1,h2,a,b,c⟩:=d.zt z l
  exact⟨sU h1 c i,h2,a,b,c⟩
theorem zA.tree{H:Hp}{p:aO}{r:K0}{lr lt:Addr}{ts:K3}{rs:Yaa}{zs:List tI}{z:tI}{a b:Nat}(g:zA H p r lr lt ts rs zs)(hz:z.at H)(hn:z.nm∈p)(hp:fG z.p a b) :
  zA (aD H lt (.lst ((zs.map λz=>V.ref z.a)++[V.ref z.a]))) p r lr lt ts rs (zs++[z]):=by
 have ta:H lt=some (.lst ((zs.map tI.a).map V.ref)):=by rw[g.ta,Ka];rfl
 refine⟨g.ne,?_,g.ro,by rw[af,J_];rfl,λy d=>?_⟩
 ·refine⟨by rw[ar g.ne];exact g.ra.1,g.ra.2.1,λi t x k j=>?_⟩
  have h:=g.ra.2.2 i t x k j;rw[ar (λe=>by rw[e,ta]at h;cases h)];exact h
 ·rcases J'.mp d with h | h
  ·obtain⟨h1,h2,a,b,c⟩:=g.zt y h
   exact⟨sU h1 c ta,h2,a,b,c⟩
  ·rw[J0.mp h];exact⟨sU hz hp ta,hn,a,b,hp⟩
inductive GD(H:Hp)(lc ln ls lr lt:Addr)(mo:Int)(p:aO)(r:K0)(i:Nat)(H':Hp):St->Prop
 |mk (ts:K3) (rs:Yaa) (zs:List tI) (x6 x7 x8 x9 x10 x11 x12 x13:Option V) (_:aB H H') (_:zA H' p r lr lt ts rs zs) (_:rs.length=i) (_:zs.length=i):GD H lc ln ls lr lt mo p r i H' [some (V.ref lc),some (V.ref ln),some (V.ref ls),some (V.int mo),some (V.ref lr),some (V.ref lt),x6,x7,x8,x9,x10,x11,x12,x13]
theorem C6{c1 c2:TT}{t1 t2 u2:TS}{D:g_}{N:St->Hp->Prop}{G:Prop}(h1:∀σ H,ug c1 t1 (ug c2 t2 u2) D σ H->N σ H)(A B C:(St->Hp->Prop)->Prop)(hA:A (t1 D))(hB:B (t2 D))(hC:C (u2 D))(k:∀t1 t2 u2:TS,A (t1 D)->B (t2 D)->C (u2 D)->(∀σ H,ug c1 t1 (ug c2 t2 u2) D σ H->N σ H)->G):G:=k t1 t2 u2 hA hB hC h1
abbrev ly:Stmt:=fP 63
inductive oK(K:W.Frag)(vs:List V)(H:Hp)(Q:VK)(_E:XK):Prop
 |mk (lc ln ls:Addr) (cs:List Int) (p:aO) (r:K0) (_:vs=[.ref lc,.ref ln,.ref ls,.int 9]) (_:H lc=some (.lst (cs.map V.int))) (_:H ln=some (.lst (ao p))) (_:H ls=some (.lst (ao (cQ r)))) (_:p≠[]) (_:r≠[]) (_:cs.length<=100) (_:p.length<=8) (_:r.length<=8) (_:(∀n∈p,dD n=true)) (_:(∀c∈r,iw [c]=true)) (_:∀tp lr lt ts rs zs H',H' tp=some (.tup [.ref lr,.ref lt])->zA H' p r lr lt ts rs zs->rs.length=cs.length->zs.length=cs.length->aB H H'->Q (.ref tp) H')
theorem vN:aE ["_law_cells","_law_names_here","_law_signs_here","_law_most","_law_rules","_law_trees","_law_cell_here","_law_kind","_law_name","_law_cost","_law_one","_law_picture","_law_other","_law_sign"] ["_law_cells","_law_names_here","_law_signs_here","_law_most"] (av ly):=by walk_at "c"
theorem vM{f:Addr}{fd:K5}(F:dr K "_law_grown" "_law_grown" ly f fd)(nb:NB mg)(zxc:dG P w K mg base bD 1 "_law_put" ["_law_kind","_law_one","_law_other"] (uY K))(zia:dG P w K mg base bD 1 "_law_turned" ["_law_picture","_law_t"] (fR K)):br P w K mg base bD 2 f fd ["_law_cells","_law_names_here","_law_signs_here","_law_most"] (oK K):=by
 have sc:=vN;walk_at "f"
 ·obtain⟨lc,ln,ls,cs,p,r,rfl,d6,e7,e6,p0,r0,c100,p8,r8,c1,d2,q⟩:=h
  have hu:=hr.units;refine⟨_,(ae (q01 4 sc.nd (bz ad))
   (ae (q01 5 sc.nd (bz ad))
   (ae (bg PassesOwn.never rfl (bi (am 0)) (q02 6 sc.nd)
   (ae (q01 7 sc.nd (aw (bj.m1 a_) (am 6) ai))
   (ae (q01 8 sc.nd (aU aY (am 1) (aw (bj.m1 a_) (aw (bj.m1 bd) (am 6) ai) (aA aZ rfl nb.len aW (ac (am 1) ad))) (λ_ _=>rfl)))
   (ae (q01 9 sc.nd (aw (bj.m0 bO) ai (aw (bj.m1 a_) (aw (bj.m1 bd) (am 6) ai) ai)))
   (ae (q01 10 sc.nd kL)
   (ae (q01 11 sc.nd kL)
   (ae (bJ (PW.pt (fL (aL (bj.m0 lY) (am 7) ai (aQ _)) (eV (aL (rh hu) (am 5) (bz ad) (aQ _)))))
   (ae (q01 10 sc.nd (aU aY (am 5) (aw (bj.m1 a_) (aw (bj.m1 bd) (am 6) ai) (aA aZ rfl nb.len aW (ac (am 5) ad))) (λ_ _=>rfl)))
   (ae (q01 12 sc.nd (aU aY (am 5) (aw (bj.m1 a_) (aw (bj.m1 bd) (am 6) ai) (aA aZ rfl nb.len aW (ac (am 5) ad))) (λ_ _=>rfl)))
   (ag (q01 11 sc.nd (q00 zxc hr (ac (am 7) (ac (aU bH (am 10) ai (λ_ _=>rfl)) (ac (aU bH (am 12) ai (λ_ _=>rfl)) ad))))))))
   aV)
   (ag (bJ (PW.pt (fL (aL dm (am 7) ai (aQ _)) (eV (aL (rh hu) (am 5) (bz ad) (aQ _)))))
   (ae (bo (q03 (am 4) (ac (bN (b7 (ac (am 8) (ac (am 9) (ac (aU bH (am 10) ai (λ_ _=>rfl)) (ac (aw (bj.m1 a_) (aw (bj.m1 bd) (am 6) ai) ai) ad)))))) ad)))
   (ag (bo (q03 (am 5) (ac (bN (ac (bN (ac (aw (bj.m0 ii) (aA aZ rfl nb.len aW (ac (am 4) ad)) ai) (ac (aU bH (am 10) ai (λ_ _=>rfl)) ad))) (ac (am 8) (ac (q00 zia hr (ac (aU bH (am 10) ai (λ_ _=>rfl)) (ac (aw (bj.m1 a_) (aw (bj.m1 bd) (am 6) ai) ai) ad))) (ac (aw (bj.m0 bO) (am 9) (aU bH (am 10) ai (λ_ _=>rfl))) ad))))) ad)))))
   (ag (bJ (PW.pt (fL (aL w_ (am 11) kL (aQ _)) (fL (aL (bj.m0 pZ) (aw (bj.m1 dz) (aA aZ rfl nb.len aW (ac (am 11) ad)) (aA aT rfl nb.len aW (ac (aU aY (am 11) ai (λ_ _=>rfl)) ad))) (am 3) (aQ _)) (eV (aL (bj.m0 kn) (aA (qy rfl) rfl nb.max A3 (ac (aA aZ rfl nb.len aW (ac (am 11) ad)) (ac (aA aT rfl nb.len aW (ac (aU aY (am 11) ai (λ_ _=>rfl)) ad)) ad))) ai (aQ _))))))
   (ae (bo (q03 (am 4) (ac (bN (ac (am 7) (ac (am 8) (ac (am 9) (ac (aU bH (am 10) ai (λ_ _=>rfl)) (ac (aU bH (am 12) ai (λ_ _=>rfl)) ad)))))) ad)))
   (ag (bo (q03 (am 5) (ac (bN (ac (bN (ac (aw (bj.m0 ii) (aA aZ rfl nb.len aW (ac (am 4) ad)) ai) (ac (aU bH (am 10) ai (λ_ _=>rfl)) (ac (aU bH (am 12) ai (λ_ _=>rfl)) ad)))) (ac (am 8) (ac (am 11) (ac (aw (bj.m0 bO) (aw (bj.m0 bO) (am 9) (aU bH (am 10) ai (λ_ _=>rfl))) (aU bH (am 12) ai (λ_ _=>rfl))) ad))))) ad)))))
   (ae (q01 13 sc.nd (aU aY (am 2) (aw (bj.m1 a_) (aw (bj.m1 bd) (am 6) ai) (aA aZ rfl nb.len aW (ac (am 2) ad))) (λ_ _=>rfl)))
   (ae (bo (q03 (am 4) (ac (bN (b7 (ac (am 8) (ac (am 9) (ac (am 13) (gz ad)))))) ad)))
   (ag (bo (q03 (am 5) (ac (bN (ac (bN (ac (aw (bj.m0 ii) (aA aZ rfl nb.len aW (ac (am 4) ad)) ai) ad)) (ac (am 8) (ac (bz (ac (am 13) ad)) (ac (am 9) ad))))) ad)))))))))))))))))
   (ag (aK (bN (ac (am 4) (ac (am 5) ad)))))))),?_⟩
  walk_at "n";refine⟨Kk _,λD a8=>h1 _ _ ?_⟩;clear h1;generalize z0:aD H D _=H1;obtain⟨s1,e1⟩:=dU a8 z0;walk_at "n";refine⟨Kk _,λlt a7=>h1 _ _ ?_⟩;clear h1;generalize d:aD H1 lt _=H2;obtain⟨s2,e2⟩:=dU a7 d;have d4:H lt=none:=s1.free a7;have e3:D≠lt:=λe=>by rw[<- e,e1]at a7;cases a7
  have e0:0<(ao p).length:=by rw[aj];exact List.length_pos_iff.mpr p0
  have d9:0<(ao (cQ r)).length:=by rw[aj];unfold cQ;rw[JZ];exact List.length_pos_iff.mpr r0
  walk_at "n";refine⟨⟨_,aN.of (s2 _ _ (s1 _ _ d6))⟩,?_⟩;refine bQ (xs:=cs.map V.int) (λi σ H'=>GD H lc ln ls D lt 9 p r i H' σ) (.mk [] [] [] _ _ _ _ _ _ _ _ (s1.trans s2) ⟨e3,⟨s2 _ _ e1,rfl,λi t r e=>by simp at e⟩,(λx hx=>nomatch hx),e2,(λx hx=>nomatch hx)⟩ rfl rfl) (λi σ H' _ h=>by cases h with | mk _ _ _ _ _ _ _ _ _ _ _ s=>exact aN.of (s _ _ d6)) ?_ ?_
  ·rintro i x σ H' hx ⟨ts,rs,O,x6,x7,x8,x9,Y,U,B,j,sm,g,J,a4⟩
   rw[J1]at hx;obtain⟨c,hc,rfl⟩:=Kn.mp hx;have hi:=(JX.mp hc).1;have b3:=sm _ _ e7;have b0:=sm _ _ e6;obtain⟨nm,S,en⟩:=iS p0 (c/4);obtain⟨sg,c0,eg⟩:=va r0 (c/144);have c2:1<=1+c/16%9/\1+c/16%9<=9:=by omega
   walk_at "n";refine h1 _ _ ?_;walk_at "nc";refine⟨_,aN.of b3,Int.ofNat_lt.mpr e0,_,aN.of b3,_,en,h1 _ _ ?_⟩;walk_at "nc";refine h1 _ _ ?_;clear h1;generalize hcst:1+c/16%9=cs1 at c2 ⊢;walk_at "n";refine h1 _ _ ?_;walk_at "nc";refine h1 _ _ ?_;clear h1;refine aq λN1 h1=>?_;have mk:∀(k:Nat) (o1 o2:K0) (t:Int),k<4->o1∈p->o2∈p->0<=t->t<=7->iF p r (k,⟨nm,cs1,o1,o2,[sg],t⟩):=λk o1 o2 t hk h1 h2 t0 t7=>by
    have gd:(⟨nm,cs1,o1,o2,[sg],t⟩:RV).good:=⟨c1 nm S,c2.1,c2.2,c1 o1 h1,c1 o2 h2,d2 sg c0,t0,t7⟩;exact⟨⟨hk,gd,gd.small⟩,S,h1,h2,⟨sg,c0,rfl⟩⟩
   have hrl2:=g.ra.2.1;have fin:∀{H5 H8:Hp} {ts':K3} {rs':Yaa} {x6 x7 x8 x9 Y U B j:Option V} (z:tI) {a b:Nat},zA H5 p r D lt ts' rs' O->rs'.length=i+1->aB H H5->aB H5 H8->z.at H8->z.nm∈p->fG z.p a b->∃x2,H8 lt=some (.lst x2)/\x2.length<sizeLine/\GD H lc ln ls D lt 9 p r (i+1) (aD H8 lt (.lst (x2++[V.ref z.a]))) [some (V.ref lc),some (V.ref ln),some (V.ref ls),some (V.int 9),some (V.ref D),some (V.ref lt),x6,x7,x8,x9,Y,U,B,j]:=λz a b g5 e5 s5 s8 hz hn hp=>
    ⟨_,(g5.up s8).ta,by rw[JZ];exact aX ⋯,.mk _ _ _ _ _ _ _ _ _ _ _ (bK (s5.trans s8) d4) ((g5.up s8).tree hz hn hp) e5 (by rw[Ki,a4];rfl)⟩
   refine C6 h1 (λt=>∀{H4:Hp} {d:tI} {v B j:Option V},aB H' H4->d∈O->t [some (V.ref lc),some (V.ref ln),some (V.ref ls),some (V.int 9),some (V.ref D),some (V.ref lt),some (V.int c),some (V.int (c%4)),some (V.str (tx nm)),some (V.int cs1),some (V.ref d.a),v,B,j] H4)
    (λt=>∀{y:Hp} {d C:tI} {lq:Addr} {R:aO} {a b k:Nat} {j:Option V},aB H' y->(k=1\/k=2)->c%4=(k:Int)->d∈O->C∈O->y lq=some (.lst (ao R))->fG R a b->t [some (V.ref lc),some (V.ref ln),some (V.ref ls),some (V.int 9),some (V.ref D),some (V.ref lt),some (V.int c),some (V.int (c%4)),some (V.str (tx nm)),some (V.int cs1),some (V.ref d.a),some (V.ref lq),some (V.ref C.a),j] y)
    (λt=>∀{y:Hp} {Y U B j:Option V},aB H' y->t [some (V.ref lc),some (V.ref ln),some (V.ref ls),some (V.int 9),some (V.ref D),some (V.ref lt),some (V.int c),some (V.int (c%4)),some (V.str (tx nm)),some (V.int cs1),Y,U,B,j] y) ?_ ?_ ?_ ?_
   ·intro H4 d v B j s4 m
    have g4:=g.up s4;obtain⟨⟨n,a9⟩,a5,a1,b1,P1⟩:=g4.zt d m;walk_at "o";refine⟨.inl ⟨rfl,_,aN.of g4.ra.1⟩,_,dt.of n,_,rfl,au (by decide),λZ h1=>?_⟩;obtain⟨eA,L⟩:=g4.row (vals:=[V.int 3,V.str (tx nm),V.int cs1,V.str (tx d.nm),V.int (c/1296%8)]) h1 (mk 3 d.nm d.nm (c/1296%8) (by decide) a5 a5 ⋯ ⋯) rfl;refine⟨_,eA,by rw[JZ];exact aX ⋯,h2 _ _ ?_⟩;clear h2;have sA:aB H (aD (aD H4 Z (.tup [V.int 3,V.str (tx nm),V.int cs1,V.str (tx d.nm),V.int (c/1296%8)])) D (.lst (ts.map V.ref++[V.ref Z]))):=bK ((sm.trans s4).trans (ak h1)) a8;generalize aD (aD H4 Z _) D _=H5 at L sA ⊢;obtain⟨⟨n,a9⟩,_⟩:=L.zt d m;walk_at "wp";refine⟨.inl ⟨rfl,_,aN.of L.ta⟩,_,aN.of L.ra.1,_,dt.of n,_,rfl,au (by decide),λp2 h2=>?_⟩;generalize C:aD H5 p2 _=H6;obtain⟨s6,_⟩:=dU h2 C;obtain⟨t8,f0⟩:∃t8:Nat,c/1296%8=(t8:Int):=⟨(c/1296%8).toNat,⋯⟩;refine⟨_,dt.of (s6 _ _ n),_,rfl,d.lp,d.p,a1,b1,t8,by rw[f0],s6 _ _ a9,P1.rc,P1.a1,P1.b1,by have:=P1.a6;omega,by have:=P1.b6;omega,⋯,λlq H7 hlq h7 s7=>?_⟩;obtain⟨a2,b2,P2⟩:=P1.turn t8;exact⟨_,dt.of (s7 _ _ (s6 _ _ n)),_,rfl,_,rfl,au (by decide),λp5 h5=>fin ⟨p5,lq,V.ref p2,nm,turned d.p t8,cs1+d.c⟩ L (by rw[Ki,J];rfl) sA ((s6.trans s7).trans (ak h5)) ⟨af,ak h5 _ _ h7⟩ S P2⟩
   ·intro y d C lq R a b k j u hk ek m I hq PQ
    have T:=g.up u;obtain⟨l0,w0⟩:=cT PQ.rc (show 0<a from PQ.a1);obtain⟨⟨n,_⟩,a5,_⟩:=T.zt d m;obtain⟨⟨a3,_⟩,e4,_⟩:=T.zt C I;walk_at "o";refine⟨.inl ⟨rfl,_,aN.of T.ra.1⟩,_,dt.of n,_,rfl,_,dt.of a3,_,rfl,au (by decide),λZ h1=>?_⟩;obtain⟨eA,L⟩:=T.row (vals:=[V.int (c%4),V.str (tx nm),V.int cs1,V.str (tx d.nm),V.str (tx C.nm)]) h1 (mk k d.nm C.nm 0 ⋯ a5 e4 (by decide) (by decide)) (by rw[ek];rcases hk with rfl | rfl<;>rfl);refine⟨_,eA,by rw[JZ];exact aX ⋯,h2 _ _ ?_⟩;clear h2;have sA:aB H (aD (aD y Z (.tup [V.int (c%4),V.str (tx nm),V.int cs1,V.str (tx d.nm),V.str (tx C.nm)])) D (.lst (ts.map V.ref++[V.ref Z]))):=bK ((sm.trans u).trans (ak h1)) a8;have d3:aD (aD y Z (.tup [V.int (c%4),V.str (tx nm),V.int cs1,V.str (tx d.nm),V.str (tx C.nm)])) D (.lst (ts.map V.ref++[V.ref Z])) lq=some (.lst (ao R)):=by
     rw[ar (Af (ak h1 _ _ hq) l0 eA)];exact ak h1 _ _ hq
    generalize aD (aD y Z _) D _=H5 at L sA d3 ⊢;obtain⟨⟨n,_⟩,_⟩:=L.zt d m;obtain⟨⟨a3,_⟩,_⟩:=L.zt C I;walk_at "wp";refine⟨.inl ⟨rfl,_,aN.of L.ta⟩,_,aN.of L.ra.1,_,dt.of n,_,rfl,_,dt.of a3,_,rfl,au (by decide),λp2 h2=>?_⟩;generalize y2:aD H5 p2 _=H6;obtain⟨s6,_⟩:=dU h2 y2;exact⟨_,dt.of (s6 _ _ n),_,rfl,_,rfl,_,dt.of (s6 _ _ a3),_,rfl,_,rfl,au (by decide),λp5 h5=>fin ⟨p5,lq,V.ref p2,nm,R,cs1+d.c+C.c⟩ L (by rw[Ki,J];rfl) sA (s6.trans (ak h5)) ⟨af,ak h5 _ _ (s6 _ _ d3)⟩ S PQ⟩
   ·intro y Y U B j u
    have T:=g.up u;walk_at "o";refine⟨_,aN.of (u _ _ b0),Int.ofNat_lt.mpr d9,_,aN.of (u _ _ b0),_,eg,h2 _ _ ?_⟩;walk_at "oc";refine⟨.inl ⟨rfl,_,aN.of T.ra.1⟩,au (by decide),λZ h1=>?_⟩;obtain⟨eA,L⟩:=T.row (vals:=[V.int 0,V.str (tx nm),V.int cs1,V.str (tx [sg]),V.str (Str.ofString "")]) h1 (mk 0 nm nm 0 (by decide) S S (by decide) (by decide)) rfl;refine⟨_,eA,by rw[JZ];exact aX ⋯,h2 _ _ ?_⟩;clear h2;have sA:aB H (aD (aD y Z (.tup [V.int 0,V.str (tx nm),V.int cs1,V.str (tx [sg]),V.str (Str.ofString "")])) D (.lst (ts.map V.ref++[V.ref Z]))):=bK ((sm.trans u).trans (ak h1)) a8;generalize aD (aD y Z _) D _=H5 at L sA ⊢;walk_at "wp";refine⟨.inl ⟨rfl,_,aN.of L.ta⟩,_,aN.of L.ra.1,au (by decide),λp2 h2=>⟨au (by decide),λp3 h3=>⟨au (by decide),λp4 h4=>?_⟩⟩⟩;have s8:=((ak h2).trans (ak (o:=.lst [V.str (tx [sg])]) h3)).trans (ak (o:=.tup [V.ref p2,V.str (tx nm),V.ref p3,V.int cs1]) h4);have d7:sg≠47:=λe=>q0Q (d2 sg c0) (by rw[e];decide +kernel);have pc:fG [[sg]] 1 1:=⟨⟨rfl,λx hx=>by rw[J0.mp hx];rfl⟩,by decide,by decide,by decide,by decide,λx hx h=>by rw[J0.mp hx]at h;exact d7 (J0.mp h).symm⟩;exact fin ⟨p4,p3,V.ref p2,nm,[[sg]],cs1⟩ L (by rw[Ki,J];rfl) sA s8 ⟨af,ak h4 _ _ af⟩ S pc
   ·intro t1 t2 u2 bA bB M h1
    walk_at "wp";have b4:∀{y:Hp},aB H' y->(c%4=0\/O=[])->N1 [some (V.ref lc),some (V.ref ln),some (V.ref ls),some (V.int 9),some (V.ref D),some (V.ref lt),some (V.int c),some (V.int (c%4)),some (V.str (tx nm)),some (V.int cs1),some V.non,some V.non,B,j] y:=by
     intro y u hz;refine h1 _ _ ?_;clear h1;walk_at "wp";refine b9 (λh3=>⟨Kk _,λle G=>rL ((ak G) _ _ (g.up u).ta) af ⟨_,rfl,?_⟩⟩) (λh3=>?_)
     ·rw[q06 (by rw[hz.resolve_left ⋯];simp)]
      exact M (u.trans (ak G))
     ·exact M u
    have c6:∀{y:Hp} {d C:tI} {v:V} {k:Nat},aB H' y->c%4=(k:Int)->k≠0->d∈O->C∈O->(v=.non\/∃lq R a b,v=.ref lq/\y lq=some (.lst (ao R))/\rect R a b/\1<=a/\1<=b/\a<=12/\b<=12/\bU R)->N1 [some (V.ref lc),some (V.ref ln),some (V.ref ls),some (V.int 9),some (V.ref D),some (V.ref lt),some (V.int c),some (V.int (c%4)),some (V.str (tx nm)),some (V.int cs1),some (V.ref d.a),some v,some (V.ref C.a),j] y:=by
     intro y d C v k u ek hk0 m I hv;refine h1 _ _ ?_;clear h1 b4;have a0:O≠[]:=λe=>by rw[e]at m;exact nomatch m
     walk_at "wp";refine b9 (λh3=>⟨Kk _,λle G=>rL ((ak G) _ _ (g.up u).ta) af ⟨_,rfl,?_⟩⟩) (λh3=>?_)
     ·rw[q07 (by cases O with | nil=>exact q0Q rfl a0 | cons _ _=>rfl)]
      exact bA (u.trans (ak G)) m
     ·rcases hv with rfl | ⟨lq,R,a,b,rfl,hq,rc,a1,b1,Hf,b12,ns⟩
      ·rw[q06 (by simp)]
       exact M u
      rw[q07 (by nofun)];obtain⟨l0,w0⟩:=cT rc (show 0<a from a1);have i0:iC (ao R) 0=some (V.str (tx R[0])):=(show iC _ ((0:Nat):Int)=_ from bx (ba l0));have zl:(tx R[0]).length<=sizeLine:=by rw[ax];exact au ⋯
      refine⟨_,rfl,_,aN.of hq,_,rfl,_,aN.of hq,_,i0,_,rfl,zl,.inl ⟨⋯,by rw[aj,rc.1];omega⟩,?_⟩;rw[aj,rc.1,ax,w0];refine b9 (λh9=>⟨_,rfl,_,aN.of hq,_,rfl,_,aN.of hq,_,i0,_,rfl,zl,?_⟩) (λ_=>M u);rw[aj,rc.1,ax,w0];refine b9 (λh7=>?_) (λ_=>M u);have ab:a<7/\b<7:=by split at h7<;>omega
      exact bB u ⋯ ek m I hq ⟨rc,a1,⋯,b1,⋯,ns⟩
    refine b9 (λk0=>⟨Kk _,λle G=>rL ((ak G) _ _ g.ta) af ⟨_,rfl,?_⟩⟩) (λk0=>b4 (aB.refl _) (.inl ⋯))
    by_cases a0:O=[]
    ·rw[q06 (by rw[a0];simp)]
     exact b4 (ak G) (.inr a0)
    rw[q07 (by cases O with | nil=>exact q0Q rfl a0 | cons _ _=>rfl)];have u:=ak (o:=.lst []) G;generalize aD H' le _=y at u ⊢;have T:=g.up u;have c9:0<O.length:=List.length_pos_iff.mpr a0;obtain⟨d,m,e9⟩:=qB c9 (c/144);obtain⟨C,I,e8⟩:=qB c9 (c/1296);obtain⟨⟨n,a9⟩,_,a1,b1,P1⟩:=T.zt d m;obtain⟨⟨a3,f3⟩,_,a2,b2,P2⟩:=T.zt C I;obtain⟨k,hk,ek⟩:∃k:Nat,k<4/\c%4=(k:Int):=⟨(c%4).toNat,⋯,⋯⟩;have d5:(0:Int)<((O.map λz=>V.ref z.a).length:Int):=by rw[JZ];omega
    refine⟨_,aN.of T.ta,d5,_,aN.of T.ta,_,e9,_,aN.of T.ta,d5,_,aN.of T.ta,_,e8,_,rfl,_,dt.of n,_,rfl,_,rfl,_,dt.of a3,_,rfl,d.lp,C.lp,d.p,C.p,k,a1,b1,a2,b2,by rw[ek],a9,f3,P1.rc,P2.rc,P1.a1,P1.a6,P1.b1,P1.b6,P2.a1,P2.a6,P2.b1,P2.b6,hk,λ_ H4 s4=>c6 (u.trans s4) ek ⋯ m I (.inl rfl),λR f1 l H4 _ h4 s4=>c6 (u.trans s4) ek ⋯ m I (.inr ?_)⟩;obtain⟨a,b,rc,u1,u2,u3,u4,u5⟩:=BW P1 P2 f1;exact⟨l,R,a,b,rfl,h4,rc,u1,u2,u3,u4,u5⟩
  ·rintro σ H' ⟨ts,rs,O,x6,x7,x8,x9,Y,U,B,j,sm,g,J,a4⟩
   refine h1 _ _ ?_;walk_at "wp";exact⟨au (by decide),λtp d1=>q tp D lt ts rs O _ af (g.up (ak d1)) (by rw[J,JZ]) (by rw[a4,JZ]) (sm.trans (ak d1))⟩
theorem CA{p:aO}{sg st:K0}{rs:Yaa}(hst:st∈p)(hr:∀r∈rs,iF p sg r):∃nms:List (List Nat),(ci (tx st) rs).map (·.1)=nms.map tx/\(∀x∈rs,x.2.n∈nms)/\nms.length<=p.length/\∀n∈nms,n∈p:=by
 have o:∀z∈(ci (tx st) rs).map (·.1),z∈p.map tx:=λz a=>by
  rcases(ky _ _ _).mp a with e | ⟨q,j,e⟩
  ·rw[e];exact List.mem_map_of_mem hst
  ·unfold E7 at j
   obtain⟨r,d,rfl⟩:=KI.mp j;have R:=hr r d;rcases e with e | e
   ·rw[e];exact List.mem_map_of_mem R.n
   ·obtain⟨y,b,rfl⟩:=KI.mp e
    refine List.mem_map_of_mem ?_;obtain⟨k,v⟩:=r;have w:y=v.o1\/y=v.o2:=by
     rcases dZ R.good.k4 with rfl | rfl | rfl | rfl
     ·exact q0Q b List.not_mem_nil
     ·simpa[cw]using b
     ·simpa[cw]using b
     ·exact .inl (by simpa[cw]using b)
    rcases w with rfl | rfl
    ·exact R.o1
    ·exact R.o2
 have g:=(ld (tx st) _ rs rfl).nd;have i:∀x∈rs,tx x.2.n∈(ci (tx st) rs).map (·.1):=λx c=>(ky _ _ _).mpr (.inr ⟨_,List.mem_map_of_mem c,.inl rfl⟩);have l:=ThM.nd_len g o;rw[JZ (as:=p)]at l;generalize(ci (tx st) rs).map (·.1)=ks at *;have u:∀z∈ks,tx z.cps.toList=z/\z.cps.toList∈p:=λz a=>by
  obtain⟨m,B,rfl⟩:=KI.mp (o z a);rw[dj];exact⟨rfl,B⟩
 refine⟨ks.map λz=>z.cps.toList,?_,λx c=>KI.mpr ⟨_,i x c,dj _⟩,by rw[JZ];exact l,λn g=>?_⟩
 ·rw[Ka]
  exact((q0K (λz a=>(u z a).1)).trans (List.map_id' ks)).symm
 ·obtain⟨z,a,rfl⟩:=KI.mp g
  exact(u z a).2
theorem g8{T:Ky->Option Int}{rs:Yaa}{q:aO}{n:K0}{u:Int}:u∈fM T rs q n↔∃x∈rs,x.2.n=n/\∃w∈bL x q,bS T x.2.c w=some u:=by
 unfold fM;rw[List.mem_flatMap]
 constructor
 ·rintro⟨x,hx,h⟩
  split at h
  ·rename_i e
   obtain⟨w,hw,e2⟩:=List.mem_filterMap.mp h;exact⟨x,hx,e,w,hw,e2⟩
  ·exact nomatch h
 ·rintro⟨x,hx,e,w,hw,e2⟩
  refine⟨x,hx,?_⟩;rw[q07 e];exact List.mem_filterMap.mpr ⟨w,hw,e2⟩
theorem zh{rs:Yaa}{nms:List (List Nat)}{p q:aO}{a b:Nat}{tb:Tb}{n:K0}{ys:List Int}(E:ke rs nms p a b)(h:BI rs nms p a b tb)(hq:bM p a b q)(hs:Dx (fM (aM tb) rs q n) ys):(aM tb (bC q,n)).toList=ys.take 1:=by
 have low:∀u∈fM (aM tb) rs q n,∃o,o<=u/\aM tb (bC q,n)=some o:=λu r=>by
  obtain⟨x,d,rfl,w,g,e⟩:=g8.mp r;exact h.clo q hq x d w g u e
 cases B:aM tb (bC q,n) with
 |none=>
  cases ys with
  |nil=>rfl
  |cons y ys=>
   obtain⟨o,_,e⟩:=low y (hs.1.subset (by simp));rw[B]at e;cases e
 |some v=>
  obtain⟨a',b',hr,a0,b0,_⟩:=hq.rect E.hp;have l:zB q:=⟨λe=>by have:=hr.1;rw[e]at this;simp at this;omega,hq.ns E.hp E.ns⟩;have up:∃u∈fM (aM tb) rs q n,u<=v:=by
   obtain⟨_,_,z,_⟩:=h.key _ _ B;have j:∀{x:Nat×RV} {w:List Ky} {k:Ky} {c:Int},x∈rs->w∈bL x q->k∈w->Dv rs k c->∃c',c'<=c/\aM tb k=some c':=fun{x w k c} d g hk z=>by
    obtain⟨I,C,m,_⟩:=iN E.hp hq (E.gd x d).good.t0 (E.gd x d).good.t7 g hk;obtain⟨J,k2⟩:=k;have m:J=bC I:=m;subst m;exact h.min E C z
   generalize m:(bC q,n)=k at z;cases z with
   |leaf d ho g=>
    injection m with i e2
    have e:=l.inj ho i;subst e;exact⟨_,g8.mpr ⟨_,d,e2.symm,_,g,rfl⟩,Int.le_refl _⟩
   |one d ho g d1=>
    injection m with i e2
    have e:=l.inj ho i;subst e;obtain⟨M,G,D⟩:=j d g (by simp) d1;exact⟨_,g8.mpr ⟨_,d,e2.symm,_,g,by rw[j9];simp[D];rfl⟩,⋯⟩
   |two d ho g d1 d2=>
    injection m with i e2
    have e:=l.inj ho i;subst e;obtain⟨M,G,D⟩:=j d g (by simp) d1;obtain⟨c2,l2,L⟩:=j d g (by simp) d2;exact⟨_,g8.mpr ⟨_,d,e2.symm,_,g,by rw[j9];simp[D,L];rfl⟩,⋯⟩
  obtain⟨u,r,hl⟩:=up;cases ys with
  |nil=>exact nomatch hs.1.symm.subset r
  |cons y ys=>
   obtain⟨o,G,i⟩:=low y (hs.1.subset (by simp));rw[B]at i;cases i;have:y<=u:=by
    rcases Kb.mp (hs.1.symm.subset r) with rfl | hm
    ·exact Int.le_refl _
    ·exact(List.pairwise_cons.mp hs.2).1 u hm
   have e:v=y:=by omega
   rw[e];rfl
theorem uD(k:Ky):∀{tb:Tb},(tb.map (·.1)).Nodup->tb.filterMap (λe=>if e.1=k then some (V.int e.2) else none)=((aM tb k).toList).map V.int
 | [],_=>rfl
 |e::tb,h=>by
  rw[Kq,q0d]at h;rw[dE,q0U]
  by_cases c:e.1=k
  ·rw[q07 c,q07 c]
   have:tb.filterMap (λe=>if e.1=k then some (V.int e.2) else none)=[]:=List.filterMap_eq_nil_iff.mpr λx hx=>by
    rw[q06 (λz=>h.1 (by rw[c,<- z];exact List.mem_map_of_mem hx))]
   rw[this];rfl
  ·rw[q06 c,q06 c]
   exact uD k h.2
theorem C8{n:K0}{p:aO}(h:n∈p):Dz (V.str (tx n)) (ao p)=true:=by
 unfold Dz ao;rw[List.any_map,List.any_eq_true];exact⟨n,h,by show(tx n==tx n)=true;simp⟩
theorem Ea{rs:Yaa}{nms:List (List Nat)}{p q:aO}{a b:Nat}{g:K0}(hq:bM p a b q)(E:ke rs nms p a b)(e:g=bC q)(h:tx g=Str.ofString ""):False:=by
 subst e;obtain⟨a',b',hr,a0,b0,_⟩:=hq.rect E.hp;have c:bC q=[]:=dB h
 match q,hr with
 | [],hr=>have:=hr.1;simp at this;omega
 | [row],hr=>
  have e:row=[]:=c;have:=hr.2 row (by simp);rw[e]at this;simp at this;omega
 |row::row'::bY,hr=>
  have e:row++47::bC (row'::bY)=[]:=c;simp at e
theorem EU(k k':Ky):Fc (pE k) (pE k')=decide (k=k'):=by
 show(((tx k.1==tx k'.1)&&((tx k.2==tx k'.2)&&true))&&true)=_;rw[Bool.eq_iff_iff];simp only[Bool.and_true,q0O,beq_iff_eq,q0b];exact⟨λh=>Prod.ext (dB h.1) (dB h.2),λh=>by rw[h];exact⟨rfl,rfl⟩⟩
theorem BJ{tb:Tb}(nd:(tb.map (·.1)).Nodup)(k:Ky):tb.filterMap ((λkv:List cM×V=>if kv.1=fD k then some kv.2 else none)∘eO)=((aM tb k).toList).map V.int:=by
 rw[<- uD k nd]
 congr 1
 funext e
 show(if fD e.1=fD k then some (V.int e.2) else none)=_
 by_cases h:e.1=k
 ·rw[q07 (q0R fD h),q07 h]
 ·rw[q06 (λz=>h (kt z)),q06 h]
theorem Cu{xs:List V}{n:Nat}(h:n<=xs.length):gS xs none (some (n:Int))=xs.take n:=by
 unfold gS;rw[HT.sIx_nat,HT.sIx_none,KS h,KU,Nat.sub_zero]
theorem xM{H:Hp}:∀ys:List Int,eF K H ((ys.take 1).map Dt.int) ((ys.take 1).map V.int)
 | []=>by unfold eF;rfl
 |y::ys=>by
  show eF K H [Dt.int y] [V.int y];unfold eF eF ki;exact⟨_,_,rfl,rfl,rfl⟩
theorem BH{H:Hp}{l1 l2 l:Addr}{ts ts2:K3}{rs rs2:Yaa}(h1:cX H l1 ts rs)(h2:cX H l2 ts2 rs2)(hl:H l=some (.lst (ts.map V.ref++ts2.map V.ref))):cX H l (ts++ts2) (rs++rs2):=by
 have e:=h1.2.1;refine⟨by rw[hl,J_],by rw[Ki,Ki,e,h2.2.1],λi t x b a=>?_⟩
 by_cases c:i<ts.length
 ·rw[Kh c]at b
  rw[Kh ⋯]at a;exact h1.2.2 i t x b a
 ·rw[Kg ⋯]at b
  rw[Kg ⋯,<- e]at a;exact h2.2.2 _ t x b a
abbrev qj:Stmt:=fP 74
inductive sM(K:W.Frag)(vs:List V)(H:Hp)(Q:VK)(_E:XK):Prop
 |mk (a:Addr) (ns:List Int) (_:vs=[.ref a]) (_:aN K H a (ns.map V.int)) (_:∀H',Q (.bl true) H')
theorem EH:aE ["_law_script","_law_signs_here","_law_names_here","_law_cells","_law_rules","_law_trees","_law_more","_law_picture","_law_told","_law_key","_law_seen","_law_name","_law_costs_here"] ["_law_script"] (av qj):=by walk_at "c"
theorem D7{R:RC}{f CG:Addr}{fd:K5}(F:dr K "law" "law" qj f fd)(nb:NB mg)(zga:dG P w K mg base bD 1 "_law_cell" ["_law_script","_law_k"] (i_ K))(zCb:dG P w K mg base bD 1 "_law_signs" ["_law_cell_here","_law_many"] oa)(zDb:dG P w K mg base bD 1 "_law_names" ["_law_cell_here","_law_many"] oo)(zEb:dG P w K mg base bD 2 "_law_grown" ["_law_cells","_law_names_here","_law_signs_here","_law_most"] (oK K))(zFb:dG P w K mg base bD 1 "_law_noise" ["_law_cells","_law_names_here","_law_signs_here"] oI)(zsb:dG P w K mg base bD 1 "_law_picked" ["_law_trees","_law_cell_here"] (mj K))(zhb:dG P w K mg base bD 1 "_law_doubled" ["_law_picture","_law_cell_here"] (kq K))(zib:dG P w K mg base bD 1 "_law_strange" ["_law_signs_here"] (ku K))(zjb:dG P w K mg base bD 6 "_law_grammar" ["_law_signs_here","_law_start","_law_rules"] (kF R CG))(yaF:dG P w K mg base bD 10 "table_of" ["grammar","picture"] (ma K R CG))(zGb:dG P w K mg base bD 2 "_law_table" ["_law_told"] oW)(ztb:dG P w K mg base bD 2 "_law_window" ["_law_script","_law_at","_law_picture"] (me K))(zHb:dG P w K mg base bD 3 "_law_costs" ["_law_rules","_law_told","_law_picture","_law_name"] (nu K))(zja:dG P w K mg base bD 1 "_law_text" ["_law_picture"] (kZ K)):br P w K mg base bD 11 f fd ["_law_script"] (sM K):=by
 have sc:=EH;walk_at "f"
 ·obtain⟨a,ns,rfl,hS,q⟩:=h
  have hu:=hr.units;refine⟨_,(ae (q01 1 sc.nd (q00 zCb hr (ac (q00 zga hr (ac (am 0) (b7 ad))) (ac (aw (bj.m0 bO) ai (aw (bj.m1 a_) (aw (bj.m1 bd) (q00 zga hr (ac (am 0) (b7 ad))) ai) ai)) ad))))
   (ae (q01 2 sc.nd (q00 zDb hr (ac (q00 zga hr (ac (am 0) (b7 ad))) (ac (aw (bj.m0 bO) ai (aw (bj.m1 a_) (aw (bj.m1 bd) (q00 zga hr (ac (am 0) (b7 ad))) ai) ai)) ad))))
   (ae (dS (i:=3) ["_law_k"] [0] sc.nd rfl (Or.inl rfl) rfl  rfl (bE.of (by kernel_rfl)) (by kernel_rfl) (cn rfl nb.range (ac (aw (bj.m0 bO) ai (aw (bj.m1 a_) (q00 zga hr (ac (am 0) (b7 ad))) ai)) ad))
    (λ_ _ _ _=>(ay (i:=0) (by show(["_law_k","_law_script"]:List Str).Nodup;decide +kernel) rfl (Or.inl rfl))) (λ_ _ _ _=>bW) (λ_ _ _ _=>(q00 zga hr (ac (am 1) (ac (aw (bj.m0 bO) ai (am 0)) ad)))))
   (ae (wK (q00 zEb hr (ac (am 3) (ac (am 2) (ac (am 1) (b7 ad))))) (iT (n:=2) rfl (bf (q02 4 sc.nd) (bf (q02 5 sc.nd) dQ))))
   (ae (dS (i:=6) ["_law_k"] [0] sc.nd rfl (Or.inl rfl) rfl  rfl (bE.of (by kernel_rfl)) (by kernel_rfl) (cn rfl nb.range (ac (aw (bj.m1 a_) (aw (bj.m1 bd) (q00 zga hr (ac (am 0) (b7 ad))) ai) ai) ad))
    (λ_ _ _ _=>(ay (i:=0) (by show(["_law_k","_law_script"]:List Str).Nodup;decide +kernel) rfl (Or.inl rfl))) (λ_ _ _ _=>bW) (λ_ _ _ _=>(q00 zga hr (ac (am 1) (ac (aw (bj.m0 bO) ai (am 0)) ad)))))
   (ae (q01 4 sc.nd (aw qZ (am 4) (q00 zFb hr (ac (am 6) (ac (am 2) (ac (am 1) ad))))))
   (ae (q01 7 sc.nd (q00 zhb hr (ac (aU bH (q00 zsb hr (ac (am 5) (ac (q00 zga hr (ac (am 0) (b7 ad))) ad))) ai (λ_ _=>rfl)) (ac (aw (bj.m1 bd) (q00 zga hr (ac (am 0) (b7 ad))) ai) ad))))
   (ae (bJ (aL dm (aw (bj.m1 a_) (aw (bj.m1 bd) (q00 zga hr (ac (am 0) (b7 ad))) ai) ai) ai (aQ _))
   (ag (wK (aw fO (q00 zib hr (ac (am 1) ad)) (cH jN (aU aY (am 7) ai (λ_ _=>rfl)) (cE ai) d_)) (DX (am 7) ai At)))
   aV)
   (ae (aH (i:=8) sc.nd rfl (Or.inr rfl) (q00 yaF hr (ac (q00 zjb hr (ac (am 1) (ac (aU aY (am 2) ai (λ_ _=>rfl)) (ac (am 4) ad)))) (ac (cU cI rfl nb.list fq (ac (am 7) ad)) ad))))
   (ae (bJ (fz (eS (q00 zGb hr (ac (am 8) ad)) λ_=>rfl))
   (ag (aK gM))
   aV)
   (ae (bg PassesOwn.never rfl (AS (am 8)) (q02 9 sc.nd)
   (ag (bJ (PW.pt (lU (aL kz (aU bH (am 9) ai (λ_ _=>rfl)) (am 2) (by with_unfolding_all rfl)) (lU (aL (bj.m0 kn) (ik (KG (KL (by decide:1<=64) _) hu) (am 8) (am 9) (λ_ _=>rfl)) ai (aQ _)) (lC (aL dm (aU bH (am 9) ai (λ_ _=>rfl)) jJ (aQ _))))))
   (ag (aK gM))
   aV)))
   (ae (aH (i:=10) sc.nd rfl (Or.inr rfl) (q00 ztb hr (ac (am 0) (b7 (ac (am 7) ad)))))
   (ae (bg PassesOwn.never rfl (bi (am 2)) (ay (i:=11) sc.nd rfl (Or.inr rfl))
   (ae (q01 12 sc.nd (q00 zHb hr (ac (am 4) (ac (am 8) (ac (am 10) (ac (am 11) ad))))))
   (ag (bJ (aL (rh hu) (bZ ["_law_key"] [8,10,11] rfl (bE.of (by kernel_rfl)) (by kernel_rfl) (AS (am 8))
    (λ_ _ _ _=>(ay (i:=0) (by show(["_law_key","_law_told","_law_seen","_law_name"]:List Str).Nodup;decide +kernel) rfl (Or.inl rfl))) (λ_ _ _ _=>(kg (aL (Cl (K:=K) rfl hu) (am 0) (bN (ac (q00 zja hr (ac (am 2) ad)) (ac (am 3) ad))) (aQ _)))) (λ_ _ _ _=>(ik (KG (KL (by decide:1<=64) _) hu) (am 1) (am 0) (λ_ _=>rfl)))) (cH hZ (am 12) d_ (cE ai)) (aQ _))
   (ag (aK gM))
   aV))))
   (ag (aK gM))))))))))))))),?_⟩
  obtain⟨m0,m4⟩:∃m:Nat,cN ns 0/156%4=(m:Int):=⟨_,(KR ⋯).symm⟩;obtain⟨m1,l7⟩:∃m:Nat,cN ns 1/3744%4=(m:Int):=⟨_,(KR ⋯).symm⟩;walk_at "n";refine⟨a,ns,0,rfl,hS,⋯,a,ns,0,rfl,hS,⋯,_,rfl,cN ns 0,m0,by rw[m4],⋯,λls r H1 hls o4 so g5 s1=>h1 _ _ ?_⟩;clear h1;have h6:=s1.seq hS;walk_at "n";refine⟨a,ns,1,rfl,h6,⋯,a,ns,1,rfl,h6,⋯,_,rfl,cN ns 1,m1,by rw[l7],⋯,λln p H2 hln i1 g6 b2 s2=>h1 _ _ ?_⟩;clear h1;have sA:=s1.trans s2;have d4:=s2 _ _ o4;have n8:=sA.seq hS;have p0:p≠[]:=λe=>by rw[e]at g6;simp at g6;omega
  have r0:r≠[]:=λe=>by rw[e]at g5;simp at g5;omega
  walk_at "n";have B:∀{H0:Hp} {k0 m:Nat} {N:List V->Hp->Prop},aB H H0->k0+m<=900->(∀H3,aB H0 H3->N (((List.range m).map λi=>cN ns (k0+i)).map V.int) H3)->eR (yS 0 m) (jx 0) xj (lV (i_ K) [] E0 (jz (E6 1) (jz (Ev (zT λi j=>V.int (i+j)) (tC (V.int k0)) (E6 0)) nN))) [none,some (V.ref a)] H0 N:=by
   intro H0 k0 m N s0 hk hN;refine f_ (n:=m) (f:=λi=>some (V.int (cN ns (k0+i)))) (λσ=>∃x,σ=[x,some (V.ref a)]) ⟨_,rfl⟩ ⋯ ?_ ?_
   ·rintro j hj σ H3 M1 M0 ⟨y,rfl⟩ s3 k1 k0'
    walk_at "wp";exact⟨a,ns,k0+j,by push_cast;rfl,(s0.trans s3).seq hS,⋯,k1 _ _ _ rfl s3 ⟨_,rfl⟩⟩
   ·intro H3 s3
    rw[e_,Ka]at *;exact hN H3 s3
  obtain⟨m2,l5⟩:∃m:Nat,cN ns 2%8=(m:Int):=⟨_,(KR ⋯).symm⟩;refine⟨a,ns,2,rfl,n8,⋯,_,rfl,⋯,⋯,?_⟩;rw[l5,show(1+(m2:Int)).toNat=1+m2 by omega];refine B (k0:=6) sA ⋯ λH3 s3 l3 n3=>h1 _ _ ?_;clear h1;generalize M:aD H3 l3 _=H4;obtain⟨s4,e4⟩:=dU n3 M;have sB:=sA.trans (s3.trans s4);walk_at "n";have n7:((List.range (1+m2)).map λi=>cN ns (6+i)).length=1+m2:=by rw[JZ,q0J]
  have e2:=s3.trans s4;refine⟨l3,ln,ls,_,p,r,rfl,e4,e2 _ _ i1,e2 _ _ d4,p0,r0,⋯,⋯,⋯,b2,so.one,λtp lr lt ts rs zs H5 a9 g g4 Z s5=>?_⟩;refine⟨_,rfl,_,dt.of a9,rfl,_,_,rfl,_,_,rfl,rfl,h1 _ _ ?_⟩;clear h1;rw[n7]at g4 Z;have sC:=sB.trans s5;have e1:=e2.trans s5;have a0:=e1 _ _ d4;have a2:=e1 _ _ i1;have h5:=sC.seq hS;obtain⟨m3,l4⟩:∃m:Nat,cN ns 2/8%5=(m:Int):=⟨_,(KR ⋯).symm⟩;walk_at "n";refine⟨a,ns,2,rfl,h5,⋯,_,rfl,⋯,⋯,?_⟩;rw[l4,J7];refine B (k0:=14) sC ⋯ λH6 s6 l6 n2=>h1 _ _ ?_;clear h1 B;generalize M:aD H6 l6 _=H7;obtain⟨s7,e7⟩:=dU n2 M;have h4:((List.range m3).map λi=>cN ns (14+i)).length=m3:=by rw[JZ,q0J]
  generalize(List.range m3).map (λi=>cN ns (14+i))=cs2 at e7 h4;have a5:=s6.trans s7;walk_at "n";refine⟨l6,ln,ls,cs2,p,r,rfl,e7,a5 _ _ a2,a5 _ _ a0,p0,r0,⋯,⋯,⋯,b2,so.one,λl8 k4 e6 H8 hl8 c6 hrl8 d2 s8=>?_⟩;have e0:=a5.trans s8;have b4:=g.ra.up e0;have hl1:=b4.2.1;have hl2:=c6.2.1;refine⟨_,rfl,_,b4.1,_,c6.1,by rw[JZ,JZ];exact au ⋯,λl9 f1=>h1 _ _ ?_⟩;clear h1;generalize M:aD H8 l9 _=H9;obtain⟨s9,e9⟩:=dU f1 M;have c0:=BH (b4.up s9) (c6.up s9) e9;have C:∀x∈rs++e6,iF p r x:=λx hx=>(J'.mp hx).elim (g.ro x) (d2 x);have f1:(rs++e6).length<=12:=by rw[Ki];omega
  generalize rs++e6=rs9 at c0 C f1;generalize ts++k4=ts9 at c0;have a4:=e0.trans s9;have sD:=sC.trans a4;have g9:=g.up a4;have d3:=a4 _ _ a0;have I:=a4 _ _ a2;have b3:=sD.seq hS;clear s6 s7 a5 e7 s8 e0 b4 c6 d2 e9 s9 g s5 e1 a0 a2 h5 a9;walk_at "n";refine⟨a,ns,3,rfl,b3,⋯,lt,zs,cN ns 3,rfl,g9.ta,λe=>by rw[e]at Z;simp at Z;omega,λz hz=>⟨(g9.zt z hz).1,(g9.zt z hz).2.2⟩,λz hz=>?_⟩;obtain⟨⟨h9,h8⟩,_,pa,pb,g2⟩:=g9.zt z hz;refine⟨_,rfl,_,dt.of h9,_,rfl,a,ns,2,rfl,b3,⋯,_,rfl,z.lp,z.p,pa,pb,_,rfl,h8,g2,λlq pq qa qb H10 n0 L k a8=>h1 _ _ ?_⟩;clear h1 g9 h9 h8 g2;refine aq λN1 h1=>?_;have bY:∀{pq:aO} {a3:Hp},aB H9 a3->a3 lq=some (.lst (ao pq))->fG pq qa qb->N1 [some (V.ref a),some (V.ref ls),some (V.ref ln),some (V.ref l3),some (V.ref l9),some (V.ref lt),some (V.ref l6),some (V.ref lq),none,none,none,none,none] a3:=by
   intro pq a3 l L k;refine h1 _ _ ?_;walk_at "nc";obtain⟨f3,_⟩:∃f3:0<p.length,True:=⟨List.length_pos_iff.mpr p0,trivial⟩;have b0:p[0]∈p:=J6 f3;have i3:iC (ao p) 0=some (V.str (tx p[0])):=(show iC _ ((0:Nat):Int)=_ from bx (ba f3));generalize p[0]=st at b0 i3;have d5:∀x∈rs9,lT x:=λx hx=>(C x hx).good;have hnl:=i6 (b2 st b0);refine⟨_,aN.of (l _ _ I),_,i3,l9,ls,r,st,ts9,rs9,rfl,l _ _ d3,c0.up l,d5,⋯,⋯,⋯,xT so.ok b0 b2 ⋯ ⋯ C,λgr dg as p2 hG Y=>?_⟩;refine⟨_,.inl (aN.of (Y _ _ L)),λlc n1=>?_⟩;generalize M:aD p2 lc _=H13;obtain⟨U,i2⟩:=dU n1 M;obtain⟨g0,l2,n5,hnl2,l1⟩:=CA b0 C;have hE:ke rs9 g0 pq qa qb:=⟨k.rc,k.a1,k.b1,k.a6,k.b6,k.ns,d5,n5,⋯,⋯⟩;refine⟨gr,dg,lc,r,st,as,rs9,g0,pq,qa,qb,rfl,hG.up U,l2,hE,aN.of i2,λd H14 tb hd hT hB e5=>h1 _ _ ?_⟩;clear h1;have sE:=l.trans (Y.trans (U.trans e5));have f6:=(Y.trans (U.trans e5)) _ _ L;walk_at "n";refine⟨d,tb,rfl,hT,hB.nd,λj1 o G O=>?_⟩;refine⟨_,rfl,?_⟩;rw[q06 (by simp)];refine h1 _ _ ?_;clear h1;have d9:H9 d=none:=(l.trans (Y.trans U)).free hd;have sF:aB H9 j1:=λb o e=>O b o (λz=>by rw[z,d9]at e;cases e) (sE b o e);have j8:=(O.kp hT).lst f6;clear sE O hT l L hG Y U e5 i2 hd f6 d9;walk_at "n";refine⟨tb.map eO,.inr ⟨o,G,?_⟩⟩;refine xK (λi σ H'=>aB j1 H'/\∃x,σ=[some (V.ref a),some (V.ref ls),some (V.ref ln),some (V.ref l3),some (V.ref l9),some (V.ref lt),some (V.ref l6),some (V.ref lq),some (V.ref d),x,none,none,none]) ⟨λ_ _ h=>h,_,rfl⟩ (λi σ H' _ h=>h.1 _ _ G) ?_ ?_
   ·rintro i b kv σ H' f4 hb ⟨sm,x,rfl⟩
    obtain⟨e,he,rfl⟩:=nR f4;have J:H' b=some (.tup (pE e.1)):=hb;have h3:=J2 he;have hg:=sh hB.nd (sm _ _ G) J h3;obtain⟨⟨q',k9,o2⟩,n4,_,hv1⟩:=hB.key e.1 e.2 (ue hB.nd h3);have o1:(ao p).all iy=true:=by
     unfold ao;rw[List.all_map];exact KJ.mpr λx _=>rfl
    walk_at "wp";refine⟨_,dt.of J,_,rfl,ln,_,rfl,.inl (aN.of ((sF.trans sm) _ _ I)),rfl,o1,_,rfl,?_⟩;rw[q06 (by rw[q07 rfl,C8 (l1 _ n4)];simp)];refine⟨_,hg,_,rfl,?_⟩;rw[q06 ⋯];refine⟨_,dt.of J,_,rfl,rfl,?_⟩;rw[q06 (λz=>Ea k9 hE o2 (by injection z))];exact sm
   ·rintro σ H16 ⟨e3,x,rfl⟩
    refine h1 _ _ ?_;walk_at "nc";refine⟨a,lq,ns,4,pq,qa,qb,rfl,(sF.trans e3).seq b3,⋯,e3 _ _ j8,k,λlw qq p1 hlw o3 e8 k6=>h1 _ _ ?_⟩;clear h1;have T:=e3.trans k6;walk_at "n";refine⟨⟨_,aN.of ((sF.trans T) _ _ I)⟩,?_⟩;refine bQ (xs:=ao p) (λi σ H'=>aB p1 H'/\∃d7 d6,σ=[some (V.ref a),some (V.ref ls),some (V.ref ln),some (V.ref l3),some (V.ref l9),some (V.ref lt),some (V.ref l6),some (V.ref lq),some (V.ref d),x,some (V.ref lw),d7,d6]) ⟨λ_ _ h=>h,_,_,rfl⟩ (λi σ H' _ h=>aN.of (h.1 _ _ ((sF.trans T) _ _ I))) ?_ ?_
    ·rintro i y σ o7 hy ⟨a7,d7,d6,rfl⟩
     have hi:i<p.length:=by have:=(JX.mp hy).1;rwa [aj]at this
     rw[ba hi]at hy;cases hy;generalize p[i]=n;have d1:=T.trans a7;have D:=d1 _ _ G;have f7:=a7 _ _ o3;walk_at "n";obtain⟨w1,w2,g3,k3,k2,w1m,w2m⟩:=e8.rect k.rc;have f0:fG qq w1 w2:=⟨g3,k3,by have:=k.a6;have:=k.b6;omega,k2,by have:=k.a6;have:=k.b6;omega,e8.ns k.rc k.ns⟩;refine⟨l9,d,lw,ts9,rs9,tb,o,qq,w1,w2,n,rfl,c0.up (sF.trans d1),d5,⋯,D,f7,f0,λl19 ys H19 hl19 o6 k7 S=>h1 _ _ ?_⟩;clear h1;have h0:=zh hE hB e8 k7;walk_at "wp";refine⟨tb.map eO,.inr ⟨o,S _ _ D,?_⟩⟩;have j2:=S _ _ f7;have k5:c4 qq:=c4.of g3 (by have:=f0.a6;omega) (by have:=f0.b6;omega);refine Bf (f:=λkv=>if kv.1=fD (bC qq,n) then some kv.2 else none) (λσ=>∃x,σ=[x,some (V.ref d),some (V.ref lw),some (V.str (tx n))]) ⟨_,rfl⟩ (S _ _ D) (by rw[JZ];have:=hB.len;have:=q0W;omega) ?_ ?_
     ·rintro j kv f4 b σ c9 M1 M0 ⟨y0,rfl⟩ v hb k1 k0
      obtain⟨e,he,rfl⟩:=nR f4;have J:c9 b=some (.tup (pE e.1)):=hb;walk_at "wp";refine⟨lw,qq,rfl,v _ _ j2,k5,au (by decide),λtp a9=>?_⟩;generalize M:aD c9 tp _=H21;obtain⟨u,(f5:H21 tp=some (.tup (pE (bC qq,n))))⟩:=dU a9 M;refine⟨_,dt.of (u _ _ J),_,dt.of f5,rfl,rfl,?_⟩;rw[EU]
      by_cases ek:e.1=(bC qq,n)
      ·rw[q07 (q09 ek)]
       exact⟨_,sh hB.nd ((S.trans (v.trans u)) _ _ D) (u _ _ J) (J2 he),k1 _ _ _ (q07 (q0R fD ek)) (v.trans u) ⟨_,rfl⟩⟩
      ·rw[q06 (by rw[q08 ek];simp)]
       exact k0 _ _ (q06 (λz=>ek (kt z))) (v.trans u) ⟨_,rfl⟩
     ·intro c9 v g1 h2
      rw[List.filterMap_map,BJ hB.nd,h0];generalize M:aD c9 g1 _=H21;obtain⟨u,f5⟩:=dU h2 M;have j6:=(v.trans u) _ _ o6;refine⟨_,aN.of j6,λlz m5=>?_⟩;have ec:gS (ys.map V.int) none (some 1)=(ys.take 1).map V.int:=by
       cases ys with
       |nil=>rfl
       |cons y ys=>exact Cu (n:=1) (by simp)
      rw[ec];generalize z1:aD H21 lz _=H22;obtain⟨f9,o5⟩:=dU m5 z1;refine .inl ⟨(ys.take 1).map Dt.int,?_,.inl ⟨?_,?_⟩,_,rfl,?_⟩
      ·cases ys with
       |nil=>simp[Dt.deps]
       |cons y ys=>simp[Dt.deps,Dt.dep]
      ·unfold ki;exact⟨g1,_,rfl,aN.of (f9 _ _ f5),xM ys⟩
      ·unfold ki;exact⟨lz,_,rfl,aN.of o5,xM ys⟩
      ·rw[q06 (by simp)]
       exact a7.trans (S.trans (v.trans (u.trans f9)))
    ·rintro σ o7 ⟨a7,d7,d6,rfl⟩
     refine h1 _ _ ?_;walk_at "wp";exact q _
  walk_at "wp";refine⟨a,ns,2,rfl,a8.seq b3,⋯,_,rfl,?_⟩;refine b9 (λ_=>?_) (λ_=>bY a8 L k);refine⟨ls,r,rfl,a8 _ _ d3,⋯,λc a3 c1 c2 l=>?_⟩;have f8:=l _ _ L;obtain⟨l0,w0⟩:=cT k.rc (show 0<qa from k.a1);have b1:=k.b1;have b6:=k.b6;have i0:Txt.slice (tx pq[0]) (some 1) none=tx (pq[0].drop 1):=nW (n:=1) ⋯;refine⟨_,aN.of f8,_,(show iC _ ((0:Nat):Int)=_ from bx (ba l0)),_,rfl,by rw[ax];exact au ⋯,_,rfl,by rw[i0,ax,ax,KC];exact au (by simp;omega),_,f8,0,by rw[aj];unfold DQ;rw[q07 ⋯,q07 ⋯];rfl,?_⟩;rw[i0,oG];refine bY (pq:=pq.set 0 ([c]++pq[0].drop 1)) (bK (a8.trans l) n0) (by rw[af];unfold ao;rw[List.map_set]) ⟨⟨by rw[KO];exact k.rc.1,λx hx=>?_⟩,k.a1,k.a6,b1,b6,λx hx h7=>?_⟩
  ·rcases List.mem_or_eq_of_mem_set hx with h | rfl
   ·exact k.rc.2 x h
   ·rw[Ki,KC,w0,q0Z];omega
  ·rcases List.mem_or_eq_of_mem_set hx with h | rfl
   ·exact k.ns x h h7
   ·rcases J'.mp h7 with h | h
    ·have:=J0.mp h;omega
    ·exact k.ns _ (J6 l0) (q0I h)
end
theorem bdc{n:Nat}{P:List Value->Prop}(h:∀a us,us.length=n->P (a::us)):∀us:List Value,us.length=n+1->P us:=by
 intro us e;cases us with|nil=>cases e|cons a us=>exact h a us (Nat.succ.inj e)
theorem bd0{P:List Value->Prop}(h:P []):∀us:List Value,us.length=0->P us:=by
 intro us e;cases us with|nil=>exact h|cons a us=>cases e
theorem bd1{P:List Value->Prop}(h:∀a,P [a]):∀us:List Value,us.length=1->P us:=bdc λa=>bd0 (P:=λus=>P (a::us)) (h a)
theorem bd2{P:List Value->Prop}(h:∀a b,P [a,b]):∀us:List Value,us.length=2->P us:=bdc λa=>bd1 (P:=λus=>P (a::us)) (h a)
theorem bd3{P:List Value->Prop}(h:∀a b c,P [a,b,c]):∀us:List Value,us.length=3->P us:=bdc λa=>bd2 (P:=λus=>P (a::us)) (h a)
theorem bd4{P:List Value->Prop}(h:∀a b c d,P [a,b,c,d]):∀us:List Value,us.length=4->P us:=bdc λa=>bd3 (P:=λus=>P (a::us)) (h a)
theorem bd5{P:List Value->Prop}(h:∀a b c d e,P [a,b,c,d,e]):∀us:List Value,us.length=5->P us:=bdc λa=>bd4 (P:=λus=>P (a::us)) (h a)
def FK(K:W.Frag)(x:Str)(st:Stmt)(f:Addr):Prop:=W.nsIn K mainGlobals x=some (some (.ref f))/\∃oc od osl kV doc pm an cdv ct,K.lookup f=some ⟨oc,od,.func (W.fnOf x x (dN st) (du st) (av st) .none kV doc pm an cdv ct),osl⟩/\W.codeIn K cdv x=true/\W.keepIn K (.ref f)=true
theorem fk_mk{K:W.Frag}{x:Str}{st:Stmt}{f:Addr}{oc:Value}{od an:La}{osl:Array (Option Value)}{kV doc pm cdv ct:Value}(a:W.nsIn K mainGlobals x=some (some (.ref f)))(l:K.lookup f=some ⟨oc,od,.func (W.fnOf x x (dN st) (du st) (av st) .none kV doc pm an cdv ct),osl⟩)(c:W.codeIn K cdv x=true)(k:W.keepIn K (.ref f)=true):FK K x st f:=⟨a,oc,od,osl,kV,doc,pm,an,cdv,ct,l,c,k⟩
def MK(K:W.Frag)(x q:Str)(st:Stmt)(f:Addr):Prop:=∃oc od osl kV doc pm an cdv ct,K.lookup f=some ⟨oc,od,.func (W.fnOf x q (dN st) (du st) (av st) .none kV doc pm an cdv ct),osl⟩/\W.codeIn K cdv q=true/\W.keepIn K (.ref f)=true/\W.isFn K (.ref f)=true
theorem mk_mk{K:W.Frag}{x q:Str}{st:Stmt}{f:Addr}{oc:Value}{od an:La}{osl:Array (Option Value)}{kV doc pm cdv ct:Value}(l:K.lookup f=some ⟨oc,od,.func (W.fnOf x q (dN st) (du st) (av st) .none kV doc pm an cdv ct),osl⟩)(c:W.codeIn K cdv q=true)(k:W.keepIn K (.ref f)=true)(i:W.isFn K (.ref f)=true):MK K x q st f:=⟨oc,od,osl,kV,doc,pm,an,cdv,ct,l,c,k,i⟩
theorem FK.cal{K:W.Frag}{x:Str}{st:Stmt}{f:Addr}{h base:Heap}{mg:K4}{P:K6}{w:K9}{CX:j4}{k:Nat}{ps:K7}{sp:Sp}(q:FK K x st f)(X:K.In h)(G:h.Ns mainGlobals mg)
  (ok:∀fd,dr K x x st f fd->mg x=some (.ref f)->W.keepIn K (.ref f)=true->dL K fd ps []->br P w K mg base CX k f fd ps sp)
  (hb:∀(kV doc pm:Value) (an:La) (cdv ct:Value) (us:K2),us.length=ps.length->bindArgs (W.fnOf x x (dN st) (du st) (av st) .none kV doc pm an cdv ct) ⟨us,[]⟩=pure (ps.zip us)):dG P w K mg base CX k x ps sp:=by
 obtain⟨a,oc,od,osl,kV,doc,pm,an,cdv,ct,l,c,d⟩:=q;have F:=cZ l c d;have b:=F.binds hb;exact⟨_,_,ok _ F (W.mg_of X G a) d b,W.mg_of X G a,d,b⟩
theorem all_mk{l:W.OpenLaw}{w:K9}{K:W.Frag}{h:Heap}{mg:K4}{fa f1 f2 f3 f4 f5 f6 f7 f8 f9 f10 f11 f12 f13 f14 f15 f16 f17 f18 f19 f20 f21 f22 f23 f24 f25 f26 f27 f28 f29 f30 f31 f32 f33 f34 f35 f36 f37 f38 f39 f40 f41 f42 f43 f44 f45:Addr}(X:K.In h)(G:h.Ns mainGlobals mg)(IA:mg "law"=some (.ref fa))
  (a1:FK K "only_of" kT f1) (a2:FK K "is_name" lK f2) (a3:FK K "are_signs" iL f3) (a4:FK K "check_made_of" eM f4) (a5:FK K "numbers_by_name" dO f5) (a6:FK K "mirror" om f6) (a7:FK K "column_from_below" dq f7) (a8:FK K "quarter" kJ f8) (a9:FK K "turned" oN f9) (Jv:FK K "after" tF f10) (IQ:FK K "back" vK f11) (Hf:FK K "shown" qQ f12) (Jh:FK K "windows_of" gZ f13) (IJ:FK K "cut_out" lJ f14) (HC:FK K "cells_then_rows" dI f15) (HN:FK K "seen_in" lQ f16) (H_:FK K "parted" n9 f17) (Iy:FK K "parted_texts" fC f18) (Iv:FK K "cost_by" lN f19) (I_:FK K "coming" o0 f20) (HM:FK K "lower" sZ f21) (IE:FK K "put_together" fJ f22) (Jg:FK K "turn_about" im f23) (Hm:FK K "enter_turnings" dW f24) (IR:FK K "enter_seen" hJ f25) (Jl:FK K "table_of" j0 f26) (JH:FK K "_law_cell" nq f27) (Iz:FK K "_law_whole" lx f28) (JK:FK K "_law_signs" kR f29) (II:FK K "_law_names" kK f30) (JG:FK K "_law_grammar" iU f31) (Ja:FK K "_law_text" nw f32) (JD:FK K "_law_turned" j3 f33) (JM:FK K "_law_back" nV f34) (HJ:FK K "_law_put" rp f35) (JO:FK K "_law_grown" ly f36) (Jo:FK K "_law_noise" kM f37) (Iq:FK K "_law_uses" ow f38) (IW:FK K "_law_costs" lL f39) (Hy:FK K "_law_table" kY f40) (Hl:FK K "_law_window" jK f41) (HS:FK K "_law_picked" jC f42) (Il:FK K "_law_strange" iY f43) (JC:FK K "_law_doubled" iG f44) (Jf:FK K "law" qj f45)
  {yac zya zda zoa zaa zka zba zma zca zpa zha zza zta zva zAa zea zqa zJa zBa zCa yaa yaI yat:Addr} {ya2 ya5 ybi ya3 ybb ya1 ya9:Tok}  (yp:W.nsIn K mainGlobals "CAPITALS"=some (some (.str "ABCDEFGHIJKLMNOPQRSTUVWXYZ" ya2))) (Cn:W.nsIn K mainGlobals "SMALLS"=some (some (.str "abcdefghijklmnopqrstuvwxyz" ya5))) (pF:W.nsIn K mainGlobals "LONGEST_NAME"=some (some (.int 4 ybi))) (Fe:W.nsIn K mainGlobals "Rule"=some (some (.ref yac))) (EV:W.specialIn K (.ref yac) "__getattribute__"=some (some (.builtin "type.__getattribute__"))) (EN:W.readsIn K yac (.type "type")=true) (mH:W.findCls K (.ref yac) (.type "type") "__init__"=some (.val (.ref zya))) (mw:MK K "__init__" "Rule.__init__" fU zya) (yf:W.nsIn K mainGlobals "CellRule"=some (some (.ref zda))) (E2:W.specialIn K (.builtin "object.__class__") "__get__"=some (some (.builtin "getset_descriptor.__get__"))) (E4:W.takesIn K (.builtin "object.__class__")=some true) (HY:W.plainGet K zda Str.empty=true) (JF:W.hasDictIn K zda=true) (Im:W.plainOver K zda=true) (Hz:W.findIn K (.ref zda) "__setattr__"=some (some (.builtin "object.__setattr__"))) (Jc:W.findIn K (.ref zda) "__class__"=some (some (.builtin "object.__class__"))) (Ji:W.mroIn K zda (.type "object")=some true) (Ie:W.findIn K (.ref zda) "name"=some none) (IV:W.findIn K (.ref zda) "cost"=some none) (I8:W.findIn K (.ref zda) "part_names"=some none) (IG:W.findIn K (.ref zda) "sign"=some none) (wk:W.makesIn K zda=true) (wv:W.findIn K (.ref zda) "__init__"=some (some (.ref zoa))) (jg:MK K "__init__" "CellRule.__init__" gc zoa) (vO:W.keepIn K (.ref zda)=true) (Hv:W.kitOne K (.ref zda) (.ref yac)=some true) (G4:W.kitOne K (.ref zda) (.ref zda)=some true) (tT:W.nsIn K mainGlobals "BesideRule"=some (some (.ref zaa))) (IK:W.plainGet K zaa Str.empty=true) (JA:W.hasDictIn K zaa=true) (HF:W.plainOver K zaa=true) (IT:W.findIn K (.ref zaa) "__setattr__"=some (some (.builtin "object.__setattr__"))) (Hr:W.findIn K (.ref zaa) "__class__"=some (some (.builtin "object.__class__"))) (HL:W.mroIn K zaa (.type "object")=some true) (Jn:W.findIn K (.ref zaa) "name"=some none) (Io:W.findIn K (.ref zaa) "cost"=some none) (HQ:W.findIn K (.ref zaa) "part_names"=some none) (Jy:W.findIn K (.ref zaa) "one"=some none) (Hn:W.findIn K (.ref zaa) "other"=some none) (tu:W.makesIn K zaa=true) (rP:W.findIn K (.ref zaa) "__init__"=some (some (.ref zka))) (iD:MK K "__init__" "BesideRule.__init__" eB zka) (sP:W.keepIn K (.ref zaa)=true) (Ik:W.kitOne K (.ref zaa) (.ref yac)=some true) (Ha:W.kitOne K (.ref zaa) (.ref zaa)=some true) (v6:W.nsIn K mainGlobals "AboveRule"=some (some (.ref zba))) (JE:W.plainGet K zba Str.empty=true) (Jm:W.hasDictIn K zba=true) (JQ:W.plainOver K zba=true) (HD:W.findIn K (.ref zba) "__setattr__"=some (some (.builtin "object.__setattr__"))) (JN:W.findIn K (.ref zba) "__class__"=some (some (.builtin "object.__class__"))) (Ig:W.mroIn K zba (.type "object")=some true) (IU:W.findIn K (.ref zba) "name"=some none) (Hk:W.findIn K (.ref zba) "cost"=some none) (HI:W.findIn K (.ref zba) "part_names"=some none) (Jz:W.findIn K (.ref zba) "one"=some none) (Je:W.findIn K (.ref zba) "other"=some none) (ua:W.makesIn K zba=true) (uM:W.findIn K (.ref zba) "__init__"=some (some (.ref zma))) (iO:MK K "__init__" "AboveRule.__init__" fj zma) (ur:W.keepIn K (.ref zba)=true) (ID:W.kitOne K (.ref zba) (.ref yac)=some true) (G8:W.kitOne K (.ref zba) (.ref zba)=some true) (zx:W.nsIn K mainGlobals "TurnRule"=some (some (.ref zca))) (IN:W.plainGet K zca Str.empty=true) (HV:W.hasDictIn K zca=true) (IL:W.plainOver K zca=true) (Js:W.findIn K (.ref zca) "__setattr__"=some (some (.builtin "object.__setattr__"))) (I0:W.findIn K (.ref zca) "__class__"=some (some (.builtin "object.__class__"))) (Hu:W.mroIn K zca (.type "object")=some true) (HX:W.findIn K (.ref zca) "name"=some none) (Hq:W.findIn K (.ref zca) "cost"=some none) (Jq:W.findIn K (.ref zca) "part_names"=some none) (JB:W.findIn K (.ref zca) "part"=some none) (Jp:W.findIn K (.ref zca) "turning"=some none) (wy:W.makesIn K zca=true) (wu:W.findIn K (.ref zca) "__init__"=some (some (.ref zpa))) (jo:MK K "__init__" "TurnRule.__init__" gb zpa) (vy:W.keepIn K (.ref zca)=true) (IX:W.kitOne K (.ref zca) (.ref yac)=some true) (G7:W.kitOne K (.ref zca) (.ref zca)=some true) (tM:W.nsIn K mainGlobals "MOST_SIGNS"=some (some (.int 4 ya3))) (uo:W.nsIn K mainGlobals "MOST_RULES"=some (some (.int 24 ybb))) (ul:W.nsIn K mainGlobals "MOST_NAMES"=some (some (.int 8 ya1))) (yc:W.nsIn K mainGlobals "TURNINGS"=some (some (.int 8 ya9))) (JJ:W.kitOne K (.ref zda) (.ref zaa)=some false) (Jk:W.kitOne K (.ref zda) (.ref zba)=some false) (Iu:W.kitOne K (.ref zda) (.ref zca)=some false) (HE:W.kitOne K (.ref zaa) (.ref zda)=some false) (Jt:W.kitOne K (.ref zaa) (.ref zba)=some false) (Hs:W.kitOne K (.ref zaa) (.ref zca)=some false) (IC:W.kitOne K (.ref zba) (.ref zda)=some false) (Ht:W.kitOne K (.ref zba) (.ref zaa)=some false) (IS:W.kitOne K (.ref zba) (.ref zca)=some false) (Ju:W.kitOne K (.ref zca) (.ref zda)=some false) (HW:W.kitOne K (.ref zca) (.ref zaa)=some false) (IY:W.kitOne K (.ref zca) (.ref zba)=some false) (kX:W.findIn K (.ref zda) "parts"=some (some (.ref zha))) (sV:MK K "parts" "Rule.parts" fe zha) (mn:W.findIn K (.ref zda) "ways"=some (some (.ref zza))) (mx:MK K "ways" "CellRule.ways" fS zza) (jM:W.findIn K (.ref zaa) "parts"=some (some (.ref zha))) (j6:W.findIn K (.ref zaa) "ways"=some (some (.ref zta))) (kc:MK K "ways" "BesideRule.ways" d0 zta) (j8:W.findIn K (.ref zba) "parts"=some (some (.ref zha))) (k9:W.findIn K (.ref zba) "ways"=some (some (.ref zva))) (kW:MK K "ways" "AboveRule.ways" fo zva) (lP:W.findIn K (.ref zca) "parts"=some (some (.ref zha))) (mv:W.findIn K (.ref zca) "ways"=some (some (.ref zAa))) (mF:MK K "ways" "TurnRule.ways" gg zAa) (BS:W.nsIn K mainGlobals "Grammar"=some (some (.ref zea))) (HH:W.plainGet K zea Str.empty=true) (IB:W.hasDictIn K zea=true) (Jb:W.plainOver K zea=true) (Iw:W.findIn K (.ref zea) "__setattr__"=some (some (.builtin "object.__setattr__"))) (HK:W.findIn K (.ref zea) "__class__"=some (some (.builtin "object.__class__"))) (IM:W.mroIn K zea (.type "object")=some true) (JP:W.findIn K (.ref zea) "signs"=some none) (IP:W.findIn K (.ref zea) "start"=some none) (Hx:W.findIn K (.ref zea) "kept"=some none) (Jw:W.findIn K (.ref zea) "numbers"=some none) (yL:W.makesIn K zea=true) (xS:W.findIn K (.ref zea) "__init__"=some (some (.ref zqa))) (jT:MK K "__init__" "Grammar.__init__" fV zqa) (za:W.keepIn K (.ref zea)=true) (oM:W.findIn K (.ref zea) "rule"=some (some (.ref zJa))) (oH:MK K "rule" "Grammar.rule" fQ zJa) (mJ:W.findIn K (.ref zea) "rules"=some (some (.ref zBa))) (mz:MK K "rules" "Grammar.rules" fg zBa) (mB:W.findIn K (.ref zea) "names"=some (some (.ref zCa))) (mE:MK K "names" "Grammar.names" fc zCa) (Fy:W.nsIn K mainGlobals "Cuts"=some (some (.ref yaa))) (Eu:W.plainGet K yaa Str.empty=true) (DU:W.hasDictIn K yaa=true) (D2:W.plainOver K yaa=true) (DT:W.findIn K (.ref yaa) "__setattr__"=some (some (.builtin "object.__setattr__"))) (Eb:W.findIn K (.ref yaa) "__class__"=some (some (.builtin "object.__class__"))) (Ew:W.mroIn K yaa (.type "object")=some true) (nQ:W.findIn K (.ref yaa) "picture"=some none) (uT:W.findIn K (.ref yaa) "text"=some none) (jl:W.findIn K (.ref yaa) "beside_texts"=some none) (jS:W.findIn K (.ref yaa) "above_texts"=some none) (Er:W.makesIn K yaa=true) (EL:W.findIn K (.ref yaa) "__init__"=some (some (.ref yaI))) (mI:MK K "__init__" "Cuts.__init__" fY yaI) (Et:W.keepIn K (.ref yaa)=true) (jY:W.findIn K (.ref yaa) "turned_text"=some (some (.ref yat))) (jH:MK K "turned_text" "Cuts.turned_text" dX yat)
  (z0:W.nsIn K mainGlobals "len"=some none) (z1:W.nsIn K mainGlobals "range"=some none) (z2:W.nsIn K mainGlobals "list"=some none) (z3:W.nsIn K mainGlobals "tuple"=some none) (z4:W.nsIn K mainGlobals "isinstance"=some none) (z5:W.nsIn K mainGlobals "int"=some none) (z6:W.nsIn K mainGlobals "bool"=some none) (z7:W.nsIn K mainGlobals "str"=some none) (z8:W.nsIn K mainGlobals "reversed"=some none) (z9:W.nsIn K mainGlobals "all"=some none) (HZ:W.nsIn K mainGlobals "enumerate"=some none) (Ix:W.nsIn K mainGlobals "zip"=some none) (JI:W.nsIn K mainGlobals "sorted"=some none) (Jd:W.nsIn K mainGlobals "set"=some none) (IF:W.nsIn K mainGlobals "dict"=some none) (Ho:W.nsIn K mainGlobals "min"=some none) (Jr:W.nsIn K mainGlobals "max"=some none) (IH:W.nsIn K mainGlobals "sum"=some none) (Jj:W.nsIn K mainGlobals "ValueError"=some none) :
  ∃fd:FuncData,(∀(s:K1) (v:Value),BindsTo s fd ⟨[v],[]⟩ [("_law_script",v)])/\∀base:Heap,K.In base->base.Ns mainGlobals mg->br l.prog w K mg base bD 11 fa fd ["_law_script"] (sM K):=by
 obtain⟨an,oc,od,osl,kV,doc,pm,ann,cdv,ct,hl,hc,hk⟩:=Jf;have e:=IA.symm.trans (W.mg_of X G an);cases e;have FL:=cZ hl hc hk;have nb:NB mg:=⟨W.mg_none_of X G z0,W.mg_none_of X G z1,W.mg_none_of X G z2,W.mg_none_of X G z3,W.mg_none_of X G z4,W.mg_none_of X G z5,W.mg_none_of X G z6,W.mg_none_of X G z7,W.mg_none_of X G z8,W.mg_none_of X G z9,W.mg_none_of X G HZ,W.mg_none_of X G Ix,W.mg_none_of X G JI,W.mg_none_of X G Jd,W.mg_none_of X G IF,W.mg_none_of X G Ho,W.mg_none_of X G Jr,W.mg_none_of X G IH,W.mg_none_of X G Jj⟩;refine⟨W.fnOf "law" "law" (dN qj) (du qj) (av qj) .none kV doc pm ann cdv ct,λs v=>.of_eq rfl,λbase _ _=>?_⟩;have yar:=W.mg_of X G yp;have yaj:=W.mg_of X G Cn;have yao:=W.mg_of X G pF;have ya6:=W.mg_of X G Fe;obtain⟨_,_,_,_,_,_,_,_,_,mlRule___init__,mcRule___init__,zVa,mfRule___init__⟩:=mw;have zWa:=cZ (st:=fU) mlRule___init__ mcRule___init__ zVa;have zrc:=zWa.binds (ps:=["self","name","cost","part_names"]) λ_ _ _ _ _ _=>bd4 λ_ _ _ _=>rfl
 have yba:Bm K yac "__init__" zya:=⟨EV,EN,mH,zVa⟩;have zQa:=W.mg_of X G yf;have zKa:jn K zda:=⟨⟨HY,JF,Im,Hz⟩,Jc,E2,E4,Ji⟩;obtain⟨_,_,_,_,_,_,_,_,_,mlCellRule___init__,mcCellRule___init__,zwb,mfCellRule___init__⟩:=jg;have zGa:=cZ (st:=gc) mlCellRule___init__ mcCellRule___init__ zwb;have zxb:=zGa.binds (ps:=["self","name","cost","sign"]) λ_ _ _ _ _ _=>bd4 λ_ _ _ _=>rfl
 have zSc:Mk K zda zoa:=⟨wk,wv,mfCellRule___init__,vO⟩;have zJc:=W.mg_of X G tT;have zua:jn K zaa:=⟨⟨IK,JA,HF,IT⟩,Hr,E2,E4,HL⟩;obtain⟨_,_,_,_,_,_,_,_,_,mlBesideRule___init__,mcBesideRule___init__,znb,mfBesideRule___init__⟩:=iD;have zwa:=cZ (st:=eB) mlBesideRule___init__ mcBesideRule___init__ znb;have zob:=zwa.binds (ps:=["self","name","cost","one","other"]) λ_ _ _ _ _ _=>bd5 λ_ _ _ _ _=>rfl
 have zCc:Mk K zaa zka:=⟨tu,rP,mfBesideRule___init__,sP⟩;have zTc:=W.mg_of X G v6;have zDa:jn K zba:=⟨⟨JE,Jm,JQ,HD⟩,JN,E2,E4,Ig⟩;obtain⟨_,_,_,_,_,_,_,_,_,mlAboveRule___init__,mcAboveRule___init__,zub,mfAboveRule___init__⟩:=iO;have zEa:=cZ (st:=fj) mlAboveRule___init__ mcAboveRule___init__ zub;have zvb:=zEa.binds (ps:=["self","name","cost","one","other"]) λ_ _ _ _ _ _=>bd5 λ_ _ _ _ _=>rfl
 have zKc:Mk K zba zma:=⟨ua,uM,mfAboveRule___init__,ur⟩;have zxa:=W.mg_of X G zx;have zLa:jn K zca:=⟨⟨IN,HV,IL,Js⟩,I0,E2,E4,Hu⟩;obtain⟨_,_,_,_,_,_,_,_,_,mlTurnRule___init__,mcTurnRule___init__,zyb,mfTurnRule___init__⟩:=jo;have zHa:=cZ (st:=gb) mlTurnRule___init__ mcTurnRule___init__ zyb;have zzb:=zHa.binds (ps:=["self","name","cost","part","turning"]) λ_ _ _ _ _ _=>bd5 λ_ _ _ _ _=>rfl
 have zUc:Mk K zca zpa:=⟨wy,wu,mfTurnRule___init__,vy⟩
 let R:RC:=⟨yac,zda,zaa,zba,zca⟩
 have rk:lI K R:=⟨zKa,zua,zDa,zLa,⟨Ie,IV,I8,IG⟩,⟨Jn,Io,HQ,Jy,Hn⟩,⟨IU,Hk,HI,Jz,Je⟩,⟨HX,Hq,Jq,JB,Jp⟩,Hv,Ik,ID,IX,G4,Ha,G8,G7⟩;have yas:=W.mg_of X G tM;have yay:=W.mg_of X G uo;have yaw:=W.mg_of X G ul;have yag:=W.mg_of X G yc;have rk4:BF K R:=⟨λi j hi hj=>by rcases dZ hi with rfl | rfl | rfl | rfl<;>rcases dZ hj with rfl | rfl | rfl | rfl;exact G4;exact JJ;exact Jk;exact Iu;exact HE;exact Ha;exact Jt;exact Hs;exact IC;exact Ht;exact G8;exact IS;exact Ju;exact HW;exact IY;exact G7⟩;obtain⟨_,_,_,_,_,_,_,_,_,mlRule_parts,mcRule_parts,zra,mfRule_parts⟩:=sV;have zsa:=cZ (st:=fe) mlRule_parts mcRule_parts zra;have zFa:=zsa.binds (ps:=["self"]) λ_ _ _ _ _ _=>bd1 λ_=>rfl
 have zSb:iP K zda "parts" zha:=⟨kX,mfRule_parts,zra⟩;obtain⟨_,_,_,_,_,_,_,_,_,mlCellRule_ways,mcCellRule_ways,zXa,mfCellRule_ways⟩:=mx;have zYa:=cZ (st:=fS) mlCellRule_ways mcCellRule_ways zXa;have zsc:=zYa.binds (ps:=["self","cuts"]) λ_ _ _ _ _ _=>bd2 λ_ _=>rfl
 have zcc:iP K zda "ways" zza:=⟨mn,mfCellRule_ways,zXa⟩;have zAb:iP K zaa "parts" zha:=⟨jM,mfRule_parts,zra⟩;obtain⟨_,_,_,_,_,_,_,_,_,mlBesideRule_ways,mcBesideRule_ways,zOa,mfBesideRule_ways⟩:=kc;have zPa:=cZ (st:=d0) mlBesideRule_ways mcBesideRule_ways zOa;have zTb:=zPa.binds (ps:=["self","cuts"]) λ_ _ _ _ _ _=>bd2 λ_ _=>rfl
 have zKb:iP K zaa "ways" zta:=⟨j6,mfBesideRule_ways,zOa⟩;have zLb:iP K zba "parts" zha:=⟨j8,mfRule_parts,zra⟩;obtain⟨_,_,_,_,_,_,_,_,_,mlAboveRule_ways,mcAboveRule_ways,zSa,mfAboveRule_ways⟩:=kW;have zTa:=cZ (st:=fo) mlAboveRule_ways mcAboveRule_ways zSa;have zdc:=zTa.binds (ps:=["self","cuts"]) λ_ _ _ _ _ _=>bd2 λ_ _=>rfl
 have zUb:iP K zba "ways" zva:=⟨k9,mfAboveRule_ways,zSa⟩;have zVb:iP K zca "parts" zha:=⟨lP,mfRule_parts,zra⟩;obtain⟨_,_,_,_,_,_,_,_,_,mlTurnRule_ways,mcTurnRule_ways,zZa,mfTurnRule_ways⟩:=mF;have zab:=cZ (st:=gg) mlTurnRule_ways mcTurnRule_ways zZa;have ztc:=zab.binds (ps:=["self","cuts"]) λ_ _ _ _ _ _=>bd2 λ_ _=>rfl
 have zec:iP K zca "ways" zAa:=⟨mv,mfTurnRule_ways,zZa⟩;have zrd:=W.mg_of X G BS;have zna:jn K zea:=⟨⟨HH,IB,Jb,Iw⟩,HK,E2,E4,IM⟩;obtain⟨_,_,_,_,_,_,_,_,_,mlGrammar___init__,mcGrammar___init__,zMb,mfGrammar___init__⟩:=jT;have zMa:=cZ (st:=fV) mlGrammar___init__ mcGrammar___init__ zMb;have zNb:=zMa.binds (ps:=["self","signs","start","rules"]) λ_ _ _ _ _ _=>bd4 λ_ _ _ _=>rfl
 have zid:Mk K zea zqa:=⟨yL,xS,mfGrammar___init__,za⟩;have gk:G5 K zea:=⟨zna,JP,IP,Hx,Jw⟩;obtain⟨_,_,_,_,_,_,_,_,_,mlGrammar_rule,mcGrammar_rule,zpb,mfGrammar_rule⟩:=oH;have zqb:=cZ (st:=fQ) mlGrammar_rule mcGrammar_rule zpb;have zzc:=zqb.binds (ps:=["self","k"]) λ_ _ _ _ _ _=>bd2 λ_ _=>rfl
 have zuc:iP K zea "rule" zJa:=⟨oM,mfGrammar_rule,zpb⟩;obtain⟨_,_,_,_,_,_,_,_,_,mlGrammar_rules,mcGrammar_rules,zbb,mfGrammar_rules⟩:=mz;have zcb:=cZ (st:=fg) mlGrammar_rules mcGrammar_rules zbb;have zvc:=zcb.binds (ps:=["self"]) λ_ _ _ _ _ _=>bd1 λ_=>rfl
 have zfc:iP K zea "rules" zBa:=⟨mJ,mfGrammar_rules,zbb⟩;obtain⟨_,_,_,_,_,_,_,_,_,mlGrammar_names,mcGrammar_names,zdb,mfGrammar_names⟩:=mE;have zeb:=cZ (st:=fc) mlGrammar_names mcGrammar_names zdb;have zwc:=zeb.binds (ps:=["self"]) λ_ _ _ _ _ _=>bd1 λ_=>rfl
 have zgc:iP K zea "names" zCa:=⟨mB,mfGrammar_names,zdb⟩;have ybh:=W.mg_of X G Fy;have yae:jn K yaa:=⟨⟨Eu,DU,D2,DT⟩,Eb,E2,E4,Ew⟩;obtain⟨_,_,_,_,_,_,_,_,_,mlCuts___init__,mcCuts___init__,mkCuts___init__,mfCuts___init__⟩:=mI;have yaU:=cZ (st:=fY) mlCuts___init__ mcCuts___init__ mkCuts___init__;have ybg:=yaU.binds (ps:=["self","picture"]) λ_ _ _ _ _ _=>bd2 λ_ _=>rfl
 have ybd:Mk K yaa yaI:=⟨Er,EL,mfCuts___init__,Et⟩;obtain⟨_,_,_,_,_,_,_,_,_,mlCuts_turned_text,mcCuts_turned_text,mkCuts_turned_text,mfCuts_turned_text⟩:=jH;have yaT:=cZ (st:=dX) mlCuts_turned_text mcCuts_turned_text mkCuts_turned_text;have ya4:=yaT.binds (ps:=["self","t"]) λ_ _ _ _ _ _=>bd2 λ_ _=>rfl
 have yaZ:iP K yaa "turned_text" yat:=⟨jY,mfCuts_turned_text,mkCuts_turned_text⟩;have nc:DP K yaa:=⟨nQ,uT,jl,jS⟩;have yad:=a1.cal (P:=l.prog) (w:=w) (base:=base) X G (λ_ F m k b=>wf F nb) (λ_ _ _ _ _ _=>bd2 λ_ _=>rfl);have yaf:=a2.cal (P:=l.prog) (w:=w) (base:=base) X G (λ_ F m k b=>wC F nb yao yar yad) (λ_ _ _ _ _ _=>bd1 λ_=>rfl);have zfa:yB l.prog w K mg base bD 3 "Rule" "__init__" ["self","name","cost","part_names"] (dl K):=⟨_,_,_,rq zWa nb yaf,ya6,yba,zrc⟩;have zfb:lg l.prog w K mg base bD 4 "CellRule" zda ["self","name","cost","sign"] (gX K):=⟨_,_,tD zGa nb yaj yad zfa,zQa,zSc,zxb⟩;have zNa:lg l.prog w K mg base bD 4 "BesideRule" zaa ["self","name","cost","one","other"] (dh K):=⟨_,_,n_ zwa nb zfa,zJc,zCc,zob⟩;have zRa:lg l.prog w K mg base bD 4 "AboveRule" zba ["self","name","cost","one","other"] (dh K):=⟨_,_,pp zEa nb zfa,zTc,zKc,zvb⟩;have zgb:lg l.prog w K mg base bD 4 "TurnRule" zca ["self","name","cost","part","turning"] (ie K):=⟨_,_,s_ zHa nb zfa,zxa,zUc,zzb⟩;have yaG:vX l.prog w K mg base bD 1 "parts" (nE K R):=DN ⟨_,_,_,d8 zsa nb,zKa.cl,zSb,zFa⟩ ⟨_,_,_,d8 zsa nb,zua.cl,zAb,zFa⟩ ⟨_,_,_,d8 zsa nb,zDa.cl,zLb,zFa⟩ ⟨_,_,_,d8 zsa nb,zLa.cl,zVb,zFa⟩;have yap:=a3.cal (P:=l.prog) (w:=w) (base:=base) X G (λ_ F m k b=>sJ F nb yas yaj yad) (λ_ _ _ _ _ _=>bd1 λ_=>rfl);have yaK:=a4.cal (P:=l.prog) (w:=w) (base:=base) X G (λ_ F m k b=>kU F nb rk rk4 yay zQa yap yaf) (λ_ _ _ _ _ _=>bd3 λ_ _ _=>rfl);have yam:=a5.cal (P:=l.prog) (w:=w) (base:=base) X G (λ_ F m k b=>jO F nb rk yaG) (λ_ _ _ _ _ _=>bd2 λ_ _=>rfl);have zrb:lg l.prog w K mg base bD 4 "Grammar" zea ["self","signs","start","rules"] (ia K R):=⟨_,_,qR zMa nb yaw yaK yam,zrd,zid,zNb⟩;have yai:jk l.prog w K mg base bD 1 zea "rule" ["self","k"] (fb R zea):=⟨_,_,sf zqb nb zna.cl gk.na,zna.cl,zuc,zzc⟩;have yak:jk l.prog w K mg base bD 1 zea "rules" ["self"] (gu R zea):=⟨_,_,o9 zcb nb zna.cl gk.na,zna.cl,zfc,zvc⟩;have yaS:jk l.prog w K mg base bD 1 zea "names" ["self"] (gt R zea):=⟨_,_,pf zeb nb zna.cl gk.na,zna.cl,zgc,zwc⟩;have yaA:=a6.cal (P:=l.prog) (w:=w) (base:=base) X G (λ_ F m k b=>xV F nb) (λ_ _ _ _ _ _=>bd1 λ_=>rfl);have yan:=a7.cal (P:=l.prog) (w:=w) (base:=base) X G (λ_ F m k b=>yq F nb) (λ_ _ _ _ _ _=>bd2 λ_ _=>rfl);have yaP:=a8.cal (P:=l.prog) (w:=w) (base:=base) X G (λ_ F m k b=>vP F nb yan) (λ_ _ _ _ _ _=>bd1 λ_=>rfl);have zla:=a9.cal (P:=l.prog) (w:=w) (base:=base) X G (λ_ F m k b=>xZ F nb yaA yaP) (λ_ _ _ _ _ _=>bd2 λ_ _=>rfl);have yaE:=Jv.cal (P:=l.prog) (w:=w) (base:=base) X G (λ_ F m k b=>zN F) (λ_ _ _ _ _ _=>bd2 λ_ _=>rfl);have yaB:=IQ.cal (P:=l.prog) (w:=w) (base:=base) X G (λ_ F m k b=>CT F) (λ_ _ _ _ _ _=>bd1 λ_=>rfl);have yab:=Hf.cal (P:=l.prog) (w:=w) (base:=base) X G (λ_ F m k b=>Aa F) (λ_ _ _ _ _ _=>bd1 λ_=>rfl);have yaq:=Jh.cal (P:=l.prog) (w:=w) (base:=base) X G (λ_ F m k b=>pP F nb) (λ_ _ _ _ _ _=>bd2 λ_ _=>rfl);have yaD:=IJ.cal (P:=l.prog) (w:=w) (base:=base) X G (λ_ F m k b=>wD F nb) (λ_ _ _ _ _ _=>bd2 λ_ _=>rfl);have yau:=HC.cal (P:=l.prog) (w:=w) (base:=base) X G (λ_ F m k b=>jP F nb) (λ_ _ _ _ _ _=>bd1 λ_=>rfl);have yax:=HN.cal (P:=l.prog) (w:=w) (base:=base) X G (λ_ F m k b=>wB F nb yag yaq yaD zla yab yau) (λ_ _ _ _ _ _=>bd1 λ_=>rfl);have yaN:=H_.cal (P:=l.prog) (w:=w) (base:=base) X G (λ_ F m k b=>yY F nb) (λ_ _ _ _ _ _=>bd3 λ_ _ _=>rfl);have yal:=Iy.cal (P:=l.prog) (w:=w) (base:=base) X G (λ_ F m k b=>mL F nb yaN yab) (λ_ _ _ _ _ _=>bd3 λ_ _ _=>rfl);have yaJ:lg l.prog w K mg base bD 3 "Cuts" yaa ["self","picture"] (il K):=⟨_,_,sK yaU nb yab yal,ybh,ybd,ybg⟩;have zIa:jk l.prog w K mg base bD 4 yaa "turned_text" ["self","t"] (fE yaa):=⟨_,_,ol yaT nb yae.cl nc zla yab,yae.cl,yaZ,ya4⟩;have yaz:vX l.prog w K mg base bD 5 "ways" (oQ R yaa):=DN ⟨_,_,_,(rG zYa yae.cl nc zKa.cl rk.a0.2.2.2).mono (by decide),zKa.cl,zcc,zsc⟩ ⟨_,_,_,(oy zPa yae.cl nc zua.cl ⟨rk.a1.2.2.2.1,rk.a1.2.2.2.2⟩).mono (by decide),zua.cl,zKb,zTb⟩ ⟨_,_,_,(pd zTa yae.cl nc zDa.cl ⟨rk.a2.2.2.2.1,rk.a2.2.2.2.2⟩).mono (by decide),zDa.cl,zUb,zdc⟩ ⟨_,_,_,rT zab yae zLa.cl ⟨rk.a3.2.2.2.1,rk.a3.2.2.2.2⟩ zIa yaB,zLa.cl,zec,ztc⟩;have yaR:=Iv.cal (P:=l.prog) (w:=w) (base:=base) X G (λ_ F m k b=>ww F nb rk) (λ_ _ _ _ _ _=>bd3 λ_ _ _=>rfl);have yaO:=I_.cal (P:=l.prog) (w:=w) (base:=base) X G (λ_ F m k b=>xW F nb yai yaz yaR) (λ_ _ _ _ _ _=>bd4 λ_ _ _ _=>rfl);have yah:=HM.cal (P:=l.prog) (w:=w) (base:=base) X G (λ_ F m k b=>Bk F nb) (λ_ _ _ _ _ _=>bd3 λ_ _ _=>rfl);have yaC:=IE.cal (P:=l.prog) (w:=w) (base:=base) X G (λ_ F m k b=>mD F nb rk yae.cl nc yai yaO yah) (λ_ _ _ _ _ _=>bd4 λ_ _ _ _=>rfl);have yav:=Jg.cal (P:=l.prog) (w:=w) (base:=base) X G (λ_ F m k b=>pK F nb rk yaE yah) (λ_ _ _ _ _ _=>bd4 λ_ _ _ _=>rfl);have yaM:=Hm.cal (P:=l.prog) (w:=w) (base:=base) X G (λ_ F m k b=>km F nb rk rk4 yae nc yag zxa yak yaS yaJ zla yaC yav) (λ_ _ _ _ _ _=>bd3 λ_ _ _=>rfl);have yaQ:=IR.cal (P:=l.prog) (w:=w) (base:=base) X G (λ_ F m k b=>pL F nb yax yab yaM) (λ_ _ _ _ _ _=>bd4 λ_ _ _ _=>rfl);have yaF:=Jl.cal (P:=l.prog) (w:=w) (base:=base) X G (λ_ F m k b=>ve F nb yaQ) (λ_ _ _ _ _ _=>bd2 λ_ _=>rfl);have zga:=JH.cal (P:=l.prog) (w:=w) (base:=base) X G (λ_ F m k b=>yi F nb) (λ_ _ _ _ _ _=>bd2 λ_ _=>rfl);have zBb:=Iz.cal (P:=l.prog) (w:=w) (base:=base) X G (λ_ F m k b=>v9 F nb) (λ_ _ _ _ _ _=>bd1 λ_=>rfl);have zCb:=JK.cal (P:=l.prog) (w:=w) (base:=base) X G (λ_ F m k b=>wm F nb) (λ_ _ _ _ _ _=>bd2 λ_ _=>rfl);have zDb:=II.cal (P:=l.prog) (w:=w) (base:=base) X G (λ_ F m k b=>vw F nb) (λ_ _ _ _ _ _=>bd2 λ_ _=>rfl);have zjb:=JG.cal (P:=l.prog) (w:=w) (base:=base) X G (λ_ F m k b=>sO F nb rk gk zfb zNa zRa zgb zrb) (λ_ _ _ _ _ _=>bd3 λ_ _ _=>rfl)
 have zja:=Ja.cal (P:=l.prog) (w:=w) (base:=base) X G (λ_ F m k b=>yQ F nb) (λ_ _ _ _ _ _=>bd1 λ_=>rfl);have zia:=JD.cal (P:=l.prog) (w:=w) (base:=base) X G (λ_ F m k b=>vb F nb) (λ_ _ _ _ _ _=>bd2 λ_ _=>rfl);have zXb:=JM.cal (P:=l.prog) (w:=w) (base:=base) X G (λ_ F m k b=>xU F) (λ_ _ _ _ _ _=>bd1 λ_=>rfl);have zxc:=HJ.cal (P:=l.prog) (w:=w) (base:=base) X G (λ_ F m k b=>zW F nb) (λ_ _ _ _ _ _=>bd3 λ_ _ _=>rfl);have zEb:=JO.cal (P:=l.prog) (w:=w) (base:=base) X G (λ_ F m k b=>vM F nb zxc zia) (λ_ _ _ _ _ _=>bd4 λ_ _ _ _=>rfl);have zFb:=Jo.cal (P:=l.prog) (w:=w) (base:=base) X G (λ_ F m k b=>vn F nb) (λ_ _ _ _ _ _=>bd3 λ_ _ _=>rfl);have zYb:=Iq.cal (P:=l.prog) (w:=w) (base:=base) X G (λ_ F m k b=>yJ F nb zja zXb zia) (λ_ _ _ _ _ _=>bd2 λ_ _=>rfl);have zHb:=IW.cal (P:=l.prog) (w:=w) (base:=base) X G (λ_ F m k b=>vx F nb nb.sum zYb) (λ_ _ _ _ _ _=>bd4 λ_ _ _ _=>rfl);have zGb:=Hy.cal (P:=l.prog) (w:=w) (base:=base) X G (λ_ F m k b=>wE F nb zBb) (λ_ _ _ _ _ _=>bd1 λ_=>rfl);have ztb:=Hl.cal (P:=l.prog) (w:=w) (base:=base) X G (λ_ F m k b=>tV F nb zga zia) (λ_ _ _ _ _ _=>bd3 λ_ _ _=>rfl);have zsb:=HS.cal (P:=l.prog) (w:=w) (base:=base) X G (λ_ F m k b=>tW F nb) (λ_ _ _ _ _ _=>bd2 λ_ _=>rfl);have zib:=Il.cal (P:=l.prog) (w:=w) (base:=base) X G (λ_ F m k b=>qS F nb) (λ_ _ _ _ _ _=>bd1 λ_=>rfl);have zhb:=JC.cal (P:=l.prog) (w:=w) (base:=base) X G (λ_ F m k b=>sw F nb) (λ_ _ _ _ _ _=>bd2 λ_ _=>rfl);exact D7 FL nb zga zCb zDb zEb zFb zsb zhb zib zjb yaF zGb ztb zHb zja
theorem walk{l:W.OpenLaw}{q:K6}{loose:K7}{XP:(Str->Option Value)->Heap->Prop}{YP:World->Heap->Prop}{d:DefRec}{K:Params->W.Frag}(hn:l.most=some 63)(hdf:d.params.defaults=[])
  (hY:∀(w:K9) (h:Heap),YP w h->(K w.params).In h)
  (F:∀(w:K9) (mg:K4) (fa:Addr) (h:Heap),(K w.params).In h->h.Ns mainGlobals mg->mg d.name=some (.ref fa) ->
   ∃fd:FuncData,(∀(s:K1) (u:Value),BindsTo s fd ⟨[u],[]⟩ [("_law_script",u)])/\∀base:Heap,(K w.params).In base->base.Ns mainGlobals mg->br l.prog w (K w.params) mg base bD 11 fa fd ["_law_script"] (sM (K w.params))) :
  W.WalkO q loose XP YP l.row.toRowW d [] (λf vs=>PySem.call f vs):=
 L2.walk_of (n:=63) (k:=11) (x:="_law_script") (CX:=λ_=>bD) (sp:=λw=>sM (K w.params)) hn (by decide) hdf ⟨rfl,by decide,by decide⟩ hY F (λ_ _ a ns hl _ hS=>⟨a,ns,rfl,hS,λ_=>rfl⟩) λ_ _ _ _ _ z=>z
end Q22
open PySem PySem.W PyProof.Rows
local macro_rules | `(tactic| walk_at "kk")=>`(tactic| first | (refine' Q22.fk_mk ?p ?q ?r ?s;(case p=>k_is);(case q=>k_is);(case r=>k_is);(case s=>k_is)) | (refine' Q22.mk_mk ?p ?q ?r ?s;(case p=>k_is);(case q=>k_is);(case r=>k_is);(case s=>k_is)) | k_is | kernel_rfl | rfl | decide +kernel)
set_option maxRecDepth 100000 in
set_option maxHeartbeats 0 in
theorem PySem.Challenge.cw_quiltlaw_k22_each_rule_holds_holds : PySem.Challenge.rw_quiltlaw_k22_each_rule_holds.Holds := by
 w_on;o_law;k_head;(case hw=>w_witness2)
 k_fill
 refine Q22.walk (l:=PySem.Challenge.rw_quiltlaw_k22_each_rule_holds) rfl rfl (λw h Y=>PySem.W.kIn_of Y) ?F
 case F=>
  intro w mg fa h KX G hmg
  refine' Q22.all_mk KX G hmg ?_ ?_ ?_ ?_ ?_ ?_ ?_ ?_ ?_ ?_ ?_ ?_ ?_ ?_ ?_ ?_ ?_ ?_ ?_ ?_ ?_ ?_ ?_ ?_ ?_ ?_ ?_ ?_ ?_ ?_ ?_ ?_ ?_ ?_ ?_ ?_ ?_ ?_ ?_ ?_ ?_ ?_ ?_ ?_ ?_ ?_ ?_ ?_ ?_ ?_ ?_ ?_ ?_ ?_ ?_ ?_ ?_ ?_ ?_ ?_ ?_ ?_ ?_ ?_ ?_ ?_ ?_ ?_ ?_ ?_ ?_ ?_ ?_ ?_ ?_ ?_ ?_ ?_ ?_ ?_ ?_ ?_ ?_ ?_ ?_ ?_ ?_ ?_ ?_ ?_ ?_ ?_ ?_ ?_ ?_ ?_ ?_ ?_ ?_ ?_ ?_ ?_ ?_ ?_ ?_ ?_ ?_ ?_ ?_ ?_ ?_ ?_ ?_ ?_ ?_ ?_ ?_ ?_ ?_ ?_ ?_ ?_ ?_ ?_ ?_ ?_ ?_ ?_ ?_ ?_ ?_ ?_ ?_ ?_ ?_ ?_ ?_ ?_ ?_ ?_ ?_ ?_ ?_ ?_ ?_ ?_ ?_ ?_ ?_ ?_ ?_ ?_ ?_ ?_ ?_ ?_ ?_ ?_ ?_ ?_ ?_ ?_ ?_ ?_ ?_ ?_ ?_ ?_ ?_ ?_ ?_ ?_ ?_ ?_ ?_ ?_ ?_ ?_ ?_ ?_ ?_ ?_ ?_ ?_ ?_ ?_ ?_ ?_ ?_ ?_ ?_ ?_ ?_ ?_ ?_ ?_ ?_ ?_ ?_ ?_ ?_ ?_ ?_ ?_ ?_ ?_ ?_ ?_ ?_ ?_ ?_ ?_
  all_goals (try walk_at "kk")
