import PyProof.Rows.All
import Wide.All
import OpenK.AllK
import Wide.FinOn
import HandS.ForMost
import HandS.Exc
import HandS.TryOnly
import HandS.ExcOwn
import HandS.WordsExc
import HandS.Style
import HandS.More
import HandS.IsInst
import KE.KRevSl
import PyProof.ListStr
import HandS.Conv
import HandS.Zip
import KE.GoesMore
import KE.GoesZip
import KE.GoesEnum
import HandS.Deep
import HandS.Small
import HandS.Dict
import HandS.DictComp
import HandS.ExcIs
import HandS.WideBits
import HandS.Finally
import KE.KDictLaws
import PyProof.TupleOfStr
import HandS.ExcValue
import HandS.SortRule
import KE.SortData
import KE.DataMinMax
import HandS.TupSets
import PyProof.ReprReads
import PyProof.StrLawsRepr
import KE.KExcStr
import HandS.DeepEq
import PyProof.NeKinds
import HandS.HotCalls
import HandS.Walk
import HandS.Sort
import KE.KDictList
import HandS.ReplaceLit
import HandS.ReplaceDef
import HandS.Text
import HandS.FStr
import HandS.Wide
import PyProof.ReprLen
import HandS.ReplaceList
import PySem.Challenge.RW_tablefind_k26_nearly_standing
set_option Elab.async false
set_option linter.all false
set_option maxRecDepth 100000
set_option maxHeartbeats 4000000
namespace TL
open PySem PySem.Spec PyProof.Rows L2

/-- data as trees -/
inductive D where
  | non | bl (b : Bool) | int (i : Int) | str (s : Str) | ob (v : V) | exc (c : Str) | cls (c : Str)
  | lst (xs : List D) | tup (xs : List D) | dic (es : List (Key × D)) | ro (ns : List Int) | dit (es : List ((Int × Int) × D))
instance : Inhabited D := ⟨.non⟩

/-- a text -/
def isTxt : D → Bool
  | .str _ => true
  | _ => false
/-- an exception object of the class cls at a -/
def ExH (cls : Value) (a : Addr) : HO := .ext fun h => ∃ (oe : Obj) (vs : Array Value), h.get? a = some oe ∧ Zc cls none oe ∧ oe.data = .fields vs
theorem exH_ok {P : Program} {w : World} {H : Hp} {h : Heap} {a : Addr} {cls : Value} {oe : Obj} {vs : Array Value} (e : h.get? a = some oe) (z : Zc cls none oe) (d : oe.data = .fields vs) : ObjOk P w H h a (ExH cls a) :=
  ⟨⟨oe, vs, e, z, d⟩, ⟨oe, e⟩, fun _ _ ⟨o, v, q, r⟩ k => ⟨o, v, k o q, r⟩⟩
/-- the module's name c is the object at a -/
def NameIn (K : PySem.W.Frag) (c : Str) (a : Addr) : Prop := PySem.W.nsIn K mainGlobals c = some (some (.ref a))
mutual
/-- v bears the data d in H; none of its objects is in S -/
inductive Tr (K : PySem.W.Frag) (S : Addr → Prop) (H : Hp) : V → D → Prop
  | non : Tr K S H .non .non
  | bl (b : Bool) : Tr K S H (.bl b) (.bl b)
  | int (i : Int) : Tr K S H (.int i) (.int i)
  | str (x : Str) : Tr K S H (.str x) (.str x)
  | ob (v : V) : Tr K S H v (.ob v)
  | exc {a C : Addr} {c : Str} (hc : NameIn K c C) (h : H a = some (ExH (.ref C) a)) (n : ¬ S a) : Tr K S H (.ref a) (.exc c)
  | cls {a : Addr} {c : Str} (hc : NameIn K c a) : Tr K S H (.ref a) (.cls c)
  | lst {a : Addr} {xs : List V} {ds : List D} (h : H a = some (.lst xs)) (n : ¬ S a) (t : TrL K S H xs ds) : Tr K S H (.ref a) (.lst ds)
  | tup {a : Addr} {xs : List V} {ds : List D} (h : H a = some (.tup xs)) (n : ¬ S a) (t : TrL K S H xs ds) : Tr K S H (.ref a) (.tup ds)
  | tupK {a : Addr} {xs : List V} {ds : List D} (h : ∀ H' : Hp, SqT K H' a xs) (t : TrL K S H xs ds) (q : ds.all isTxt = true) : Tr K S H (.ref a) (.tup ds)
  | dic {a : Addr} {vs : List (Key × V)} {es : List (Key × D)} (h : H a = some (.dK vs)) (n : ¬ S a) (t : TrE K S H vs es) : Tr K S H (.ref a) (.dic es)
  | ro {a : Addr} {o : Obj} {ns : List Int} (h : H a = some (.frz o (.lst (ns.map V.int)))) (n : ¬ S a) : Tr K S H (.ref a) (.ro ns)
  | roK {a : Addr} {ns : List Int} (h : ∀ H' : Hp, SqL K H' a (ns.map V.int)) : Tr K S H (.ref a) (.ro ns)
  | dit {a : Addr} {vs : List (List Key × V)} {es : List ((Int × Int) × D)} (h : H a = some (.dT vs)) (n : ¬ S a) (t : TrT K S H vs es) : Tr K S H (.ref a) (.dit es)
inductive TrL (K : PySem.W.Frag) (S : Addr → Prop) (H : Hp) : List V → List D → Prop
  | nil : TrL K S H [] []
  | cons {v : V} {vs : List V} {d : D} {ds : List D} (h : Tr K S H v d) (t : TrL K S H vs ds) : TrL K S H (v :: vs) (d :: ds)
inductive TrE (K : PySem.W.Frag) (S : Addr → Prop) (H : Hp) : List (Key × V) → List (Key × D) → Prop
  | nil : TrE K S H [] []
  | cons {k : Key} {v : V} {vs : List (Key × V)} {d : D} {ds : List (Key × D)} (h : Tr K S H v d) (t : TrE K S H vs ds) : TrE K S H ((k, v) :: vs) ((k, d) :: ds)
/-- the entries of a dict whose keys are pairs of ints -/
inductive TrT (K : PySem.W.Frag) (S : Addr → Prop) (H : Hp) : List (List Key × V) → List ((Int × Int) × D) → Prop
  | nil : TrT K S H [] []
  | cons {p : Int × Int} {v : V} {vs : List (List Key × V)} {d : D} {ds : List ((Int × Int) × D)} (h : Tr K S H v d) (t : TrT K S H vs ds) : TrT K S H (([.inl p.1, .inl p.2], v) :: vs) ((p, d) :: ds)
end

/-- from S, H to S', H': what is tracked and not in S is kept, and is not in S' -/
def Stp (S : Addr → Prop) (H : Hp) (S' : Addr → Prop) (H' : Hp) : Prop := ∀ b o, H b = some o → ¬ S b → H' b = some o ∧ ¬ S' b
theorem Stp.refl (S : Addr → Prop) (H : Hp) : Stp S H S H := fun _ _ h n => ⟨h, n⟩
theorem Stp.trans {S S1 S2 : Addr → Prop} {H H1 H2 : Hp} (a : Stp S H S1 H1) (b : Stp S1 H1 S2 H2) : Stp S H S2 H2 := fun c o h n => b c o (a c o h n).1 (a c o h n).2
theorem Stp.ext {S : Addr → Prop} {H H' : Hp} (e : Same H H') : Stp S H S H' := fun b o h n => ⟨e b o h, n⟩

mutual
theorem Tr.stp {K : PySem.W.Frag} {S S' : Addr → Prop} {H H' : Hp} (e : Stp S H S' H') : ∀ (d : D) (v : V), Tr K S H v d → Tr K S' H' v d
  | .non, _, h => by cases h; exact .non
  | .bl _, _, h => by cases h; exact .bl _
  | .int _, _, h => by cases h; exact .int _
  | .str _, _, h => by cases h; exact .str _
  | .ob _, _, h => by cases h; exact .ob _
  | .exc _, _, h => by
    cases h with
    | exc hc h n => exact .exc hc (e _ _ h n).1 (e _ _ h n).2
  | .cls _, _, h => by
    cases h with
    | cls hc => exact .cls hc
  | .lst ds, _, h => by
    cases h with
    | lst h n t => exact .lst (e _ _ h n).1 (e _ _ h n).2 (TrL.stp e ds _ t)
  | .tup ds, _, h => by
    cases h with
    | tup h n t => exact .tup (e _ _ h n).1 (e _ _ h n).2 (TrL.stp e ds _ t)
    | tupK h t q => exact .tupK h (TrL.stp e ds _ t) q
  | .dic es, _, h => by
    cases h with
    | dic h n t => exact .dic (e _ _ h n).1 (e _ _ h n).2 (TrE.stp e es _ t)
  | .ro _, _, h => by
    cases h with
    | ro h n => exact .ro (e _ _ h n).1 (e _ _ h n).2
    | roK h => exact .roK h
  | .dit es, _, h => by
    cases h with
    | dit h n t => exact .dit (e _ _ h n).1 (e _ _ h n).2 (TrT.stp e es _ t)
theorem TrL.stp {K : PySem.W.Frag} {S S' : Addr → Prop} {H H' : Hp} (e : Stp S H S' H') : ∀ (ds : List D) (vs : List V), TrL K S H vs ds → TrL K S' H' vs ds
  | [], _, h => by cases h; exact .nil
  | d :: ds, _, h => by
    cases h with
    | cons h t => exact .cons (Tr.stp e d _ h) (TrL.stp e ds _ t)
theorem TrE.stp {K : PySem.W.Frag} {S S' : Addr → Prop} {H H' : Hp} (e : Stp S H S' H') : ∀ (ds : List (Key × D)) (vs : List (Key × V)), TrE K S H vs ds → TrE K S' H' vs ds
  | [], _, h => by cases h; exact .nil
  | (k, d) :: ds, _, h => by
    cases h with
    | cons h t => exact .cons (Tr.stp e d _ h) (TrE.stp e ds _ t)
theorem TrT.stp {K : PySem.W.Frag} {S S' : Addr → Prop} {H H' : Hp} (e : Stp S H S' H') : ∀ (ds : List ((Int × Int) × D)) (vs : List (List Key × V)), TrT K S H vs ds → TrT K S' H' vs ds
  | [], _, h => by cases h; exact .nil
  | (k, d) :: ds, _, h => by
    cases h with
    | cons h t => exact .cons (Tr.stp e d _ h) (TrT.stp e ds _ t)
end
/-- fewer addresses to avoid -/
theorem stp_sub {S S' : Addr → Prop} {H : Hp} (h : ∀ a, S' a → S a) : Stp S H S' H := fun _ _ e n => ⟨e, fun z => n (h _ z)⟩
theorem stp_new {S : Addr → Prop} {H : Hp} {p : Addr} {o : HO} (hp : H p = none) : Stp S H (fun b => S b ∨ b = p) (upd H p o) := fun b u e n => by
  have hb := ne_of_none e hp
  exact ⟨by rw [upd_ne hb]; exact e, fun z => z.elim n hb⟩
theorem stp_mut {S : Addr → Prop} {H : Hp} {p : Addr} {o : HO} (hp : S p) : Stp S H S (upd H p o) := fun b u e n => by
  have hb : b ≠ p := fun z => n (z ▸ hp)
  exact ⟨by rw [upd_ne hb]; exact e, n⟩
theorem same_new {H : Hp} {p : Addr} {o : HO} (h : H p = none) : Same H (upd H p o) := fun b x e => by
  rw [upd_ne (ne_of_none e h)]
  exact e

section
variable {K : PySem.W.Frag} {S : Addr → Prop} {H : Hp}
theorem TrL.length : ∀ {vs : List V} {ds : List D}, TrL K S H vs ds → vs.length = ds.length
  | _, _, .nil => rfl
  | _, _, .cons _ t => congrArg Nat.succ t.length
theorem TrL.get : ∀ {vs : List V} {ds : List D} {i : Nat} {d : D}, TrL K S H vs ds → ds[i]? = some d → ∃ v, vs[i]? = some v ∧ Tr K S H v d
  | _, _, _, _, .nil, e => by simp at e
  | _, _, 0, _, .cons h _, e => by simp at e; subst e; exact ⟨_, rfl, h⟩
  | _, _, i + 1, d, .cons _ t, e => by
    obtain ⟨v, h1, h2⟩ := TrL.get (i := i) (d := d) t (by simpa using e)
    exact ⟨v, by simpa using h1, h2⟩
theorem TrL.append : ∀ {vs ws : List V} {ds es : List D}, TrL K S H vs ds → TrL K S H ws es → TrL K S H (vs ++ ws) (ds ++ es)
  | _, _, _, _, .nil, s => s
  | _, _, _, _, .cons r t, s => .cons r (t.append s)
theorem TrL.one {v : V} {d : D} (h : Tr K S H v d) : TrL K S H [v] [d] := .cons h .nil
theorem TrL.take : ∀ {vs : List V} {ds : List D} (n : Nat), TrL K S H vs ds → TrL K S H (vs.take n) (ds.take n)
  | _, _, 0, _ => .nil
  | _, _, _ + 1, .nil => .nil
  | _, _, n + 1, .cons r t => .cons r (t.take n)
theorem TrL.drop : ∀ {vs : List V} {ds : List D} (n : Nat), TrL K S H vs ds → TrL K S H (vs.drop n) (ds.drop n)
  | _, _, 0, r => r
  | _, _, _ + 1, .nil => .nil
  | _, _, n + 1, .cons _ t => t.drop n
theorem TrL.reverse : ∀ {vs : List V} {ds : List D}, TrL K S H vs ds → TrL K S H vs.reverse ds.reverse
  | _, _, .nil => .nil
  | _, _, .cons r t => by
    rw [List.reverse_cons, List.reverse_cons]
    exact t.reverse.append (.one r)
theorem TrL.set {v : V} {d : D} (r : Tr K S H v d) : ∀ {vs : List V} {ds : List D} (i : Nat), TrL K S H vs ds → TrL K S H (vs.set i v) (ds.set i d)
  | _, _, _, .nil => .nil
  | _, _, 0, .cons _ t => .cons r t
  | _, _, i + 1, .cons q t => .cons q (TrL.set r i t)
theorem TrL.rep {vs : List V} {ds : List D} (h : TrL K S H vs ds) : ∀ n : Nat, TrL K S H (List.replicate n vs).flatten (List.replicate n ds).flatten
  | 0 => .nil
  | n + 1 => by
    rw [List.replicate_succ, List.replicate_succ, List.flatten_cons, List.flatten_cons]
    exact h.append (h.rep n)
theorem TrL.strs : ∀ {vs : List V} {ss : List Str}, TrL K S H vs (ss.map D.str) → vs = ss.map V.str
  | _, [], h => by cases h; rfl
  | _, _ :: ss, h => by
    cases h with
    | cons h t =>
      cases h
      rw [List.map_cons, TrL.strs t]
theorem TrL.bools : ∀ {vs : List V} {ss : List Bool}, TrL K S H vs (ss.map D.bl) → vs = ss.map V.bl
  | _, [], h => by cases h; rfl
  | _, _ :: ss, h => by
    cases h with
    | cons h t =>
      cases h
      rw [List.map_cons, TrL.bools t]
theorem TrL.ints : ∀ {vs : List V} {ss : List Int}, TrL K S H vs (ss.map D.int) → vs = ss.map V.int
  | _, [], h => by cases h; rfl
  | _, _ :: ss, h => by
    cases h with
    | cons h t =>
      cases h
      rw [List.map_cons, TrL.ints t]
theorem TrL.ofInts (S : Addr → Prop) (H : Hp) : ∀ ns : List Int, TrL K S H (ns.map V.int) (ns.map D.int)
  | [] => .nil
  | n :: ns => .cons (.int n) (TrL.ofInts S H ns)
theorem TrL.ofStrs (S : Addr → Prop) (H : Hp) : ∀ ns : List Str, TrL K S H (ns.map V.str) (ns.map D.str)
  | [] => .nil
  | n :: ns => .cons (.str n) (TrL.ofStrs S H ns)
end

/-- s: the addresses that no tree may lean on; m: those whose objects may be changed -/
structure AS where
  s : Addr → Prop
  m : Addr → Prop
  sub : ∀ a, m a → s a
instance : CoeFun AS (fun _ => Addr → Prop) := ⟨AS.s⟩
instance : Coe AS (Addr → Prop) := ⟨AS.s⟩
def AS.add (S : AS) (p : Addr) : AS := ⟨fun b => S.s b ∨ b = p, S.m, fun a h => .inl (S.sub a h)⟩
def AS.own (S : AS) (p : Addr) : AS := ⟨fun b => S.s b ∨ b = p, fun b => S.m b ∨ b = p, fun a h => h.imp (S.sub a) id⟩
def AS.del (S : AS) (p : Addr) : AS := ⟨fun b => S.s b ∧ b ≠ p, fun b => S.m b ∧ b ≠ p, fun a h => ⟨S.sub a h.1, h.2⟩⟩
/-- what a slot holds: nothing known; a tree; an own list or dict that may be changed; one that the caller lent -/
inductive SD where
  | no | im (d : D) | mu (d : D) | io (d : D)
instance : Inhabited SD := ⟨.no⟩
abbrev G := List SD
structure Cxt where
  K : PySem.W.Frag
  mg : Str → Option Value
  S0 : Addr → Prop
  H0 : Hp
  io : Nat → Option Addr
/-- the object at a, which may be changed, bears d -/
def MuO (K : PySem.W.Frag) (S : Addr → Prop) (H : Hp) (a : Addr) : D → Prop
  | .lst ds => ∃ xs, H a = some (.lst xs) ∧ TrL K S H xs ds
  | .dic es => ∃ vs, H a = some (.dK vs) ∧ TrE K S H vs es
  | .dit es => ∃ vs, H a = some (.dT vs) ∧ TrT K S H vs es
  | _ => False
theorem MuO.there {K : PySem.W.Frag} {S : Addr → Prop} {H : Hp} {a : Addr} {d : D} (h : MuO K S H a d) : H a ≠ none := by
  cases d with
  | lst ds => obtain ⟨_, e, _⟩ := h; rw [e]; exact fun z => nomatch z
  | dic ds => obtain ⟨_, e, _⟩ := h; rw [e]; exact fun z => nomatch z
  | dit ds => obtain ⟨_, e, _⟩ := h; rw [e]; exact fun z => nomatch z
  | _ => exact h.elim
theorem MuO.stp {K : PySem.W.Frag} {S S' : Addr → Prop} {H H' : Hp} {a : Addr} {d : D} (h : MuO K S H a d) (e : Stp S H S' H') (k : H' a = H a) : MuO K S' H' a d := by
  cases d with
  | lst ds => obtain ⟨xs, q, t⟩ := h; exact ⟨xs, by rw [k]; exact q, t.stp e⟩
  | dic ds => obtain ⟨xs, q, t⟩ := h; exact ⟨xs, by rw [k]; exact q, t.stp e⟩
  | dit ds => obtain ⟨xs, q, t⟩ := h; exact ⟨xs, by rw [k]; exact q, t.stp e⟩
  | _ => exact h.elim

structure Rep (C : Cxt) (S : AS) (g : G) (σ : L2.St) (H : Hp) : Prop where
  len : σ.length = g.length
  im : ∀ (i : Nat) (d : D), g[i]? = some (.im d) → ∃ v, σ[i]? = some (some v) ∧ Tr C.K S H v d
  mu : ∀ (i : Nat) (d : D), g[i]? = some (.mu d) → ∃ a, σ[i]? = some (some (.ref a)) ∧ S.m a ∧ C.H0 a = none ∧ MuO C.K S H a d
  io : ∀ (i : Nat) (d : D), g[i]? = some (.io d) → ∃ a, σ[i]? = some (some (.ref a)) ∧ S.m a ∧ C.io i = some a ∧ MuO C.K S H a d
  iob : ∀ (i : Nat) (a : Addr), C.io i = some a → ∃ d : D, g[i]? = some (.io d)
  sep : ∀ (i j : Nat) (d e : D) (a : Addr), (g[i]? = some (.mu d) ∨ g[i]? = some (.io d)) → (g[j]? = some (.mu e) ∨ g[j]? = some (.io e)) → σ[i]? = some (some (.ref a)) → σ[j]? = some (some (.ref a)) → i = j
  dom : ∀ a, S a → H a ≠ none
  sub : ∀ a, C.S0 a → S a
  s0 : ∀ a, C.S0 a → C.H0 a ≠ none
  i0 : ∀ i a, C.io i = some a → C.S0 a
  fr : ∀ b o, C.H0 b = some o → (∀ i, C.io i ≠ some b) → H b = some o
section
variable {C : Cxt} {S : AS} {g : G} {σ : L2.St} {H H' : Hp}
theorem Rep.grow (r : Rep C S g σ H) (e : Same H H') : Rep C S g σ H' where
  len := r.len
  im := fun i d q => by
    obtain ⟨v, h1, h2⟩ := r.im i d q
    exact ⟨v, h1, h2.stp (.ext e)⟩
  mu := fun i d q => by
    obtain ⟨a, h1, h2, h3, h4⟩ := r.mu i d q
    refine ⟨a, h1, h2, h3, h4.stp (.ext e) ?_⟩
    cases z : H a with
    | none => exact absurd z (r.dom a (S.sub a h2))
    | some o => exact e a o z
  io := fun i d q => by
    obtain ⟨a, h1, h2, h3, h4⟩ := r.io i d q
    refine ⟨a, h1, h2, h3, h4.stp (.ext e) ?_⟩
    cases z : H a with
    | none => exact absurd z (r.dom a (S.sub a h2))
    | some o => exact e a o z
  iob := r.iob
  sep := r.sep
  dom := fun a h z => by
    cases q : H a with
    | none => exact r.dom a h q
    | some o => rw [e a o q] at z; cases z
  sub := r.sub
  s0 := r.s0
  i0 := r.i0
  fr := fun b o h n => e b o (r.fr b o h n)
theorem Rep.growNew (r : Rep C S g σ H) (e : Same H H') {p : Addr} (hp : H p = none) (hp' : H' p ≠ none) : Rep C (S.add p) g σ H' := by
  have sp : Stp S H (S.add p) H' := fun b o q n => ⟨e b o q, fun z => z.elim n fun z => by rw [z, hp] at q; cases q⟩
  have r' := r.grow e
  refine ⟨r.len, fun i d q => ?_, fun i d q => ?_, fun i d q => ?_, r.iob, r.sep, fun a ha => ?_, fun a ha => .inl (r.sub a ha), r.s0, r.i0, r'.fr⟩
  · obtain ⟨v, h1, h2⟩ := r.im i d q
    exact ⟨v, h1, h2.stp sp⟩
  · obtain ⟨a, h1, h2, h3, h4⟩ := r.mu i d q
    refine ⟨a, h1, h2, h3, h4.stp sp ?_⟩
    cases z : H a with
    | none => exact absurd z (r.dom a (S.sub a h2))
    | some o => exact e a o z
  · obtain ⟨a, h1, h2, h3, h4⟩ := r.io i d q
    refine ⟨a, h1, h2, h3, h4.stp sp ?_⟩
    cases z : H a with
    | none => exact absurd z (r.dom a (S.sub a h2))
    | some o => exact e a o z
  · rcases ha with ha | ha
    · exact r'.dom a ha
    · subst ha; exact hp'
/-- a new address is none of S -/
theorem Rep.fresh (r : Rep C S g σ H) {p : Addr} (hp : H p = none) : ¬ S p := fun z => r.dom p z hp
theorem Rep.fresh0 (r : Rep C S g σ H) {p : Addr} (hp : H p = none) : C.H0 p = none := by
  cases q : C.H0 p with
  | none => rfl
  | some o =>
    by_cases h : ∃ i, C.io i = some p
    · obtain ⟨i, hi⟩ := h
      exact absurd hp (r.dom p (r.sub p (r.i0 i p hi)))
    · rw [r.fr p o q fun i z => h ⟨i, z⟩] at hp
      cases hp
end

inductive Re where
  /-- n: the object is new; d: the data -/
  | ok (n : Bool) (d : D) (g : G)
  | ex (c : Str) (g : G)
abbrev MF := G → Option Re
/-- a value that came: H the heap ahead -/
def Val (K : PySem.W.Frag) (S : Addr → Prop) (H H' : Hp) (n : Bool) (v : V) (d : D) : Prop :=
  Tr K S H' v d ∧ (n = true → ∃ p, v = .ref p ∧ H p = none ∧ MuO K (fun b => S b ∨ b = p) H' p d)
/-- m: lent and own objects may have changed -/
def Mov (m : Bool) (S : AS) (H H' : Hp) : Prop := if m = true then ∀ b o, H b = some o → ¬ S.m b → H' b = some o else Same H H'
theorem Mov.stp {m : Bool} {S : AS} {H H' : Hp} (h : Mov m S H H') : Stp S H S H' := by
  cases m with
  | true => exact fun b o e n => ⟨h b o e fun z => n (S.sub b z), n⟩
  | false => exact .ext h
theorem Mov.of {m : Bool} {S : AS} {H H' : Hp} (h : Same H H') : Mov m S H H' := by
  cases m with
  | true => exact fun b o e _ => h b o e
  | false => exact h
theorem Mov.trans {m : Bool} {S : AS} {H H1 H2 : Hp} (a : Mov m S H H1) (b : Mov m S H1 H2) : Mov m S H H2 := by
  cases m with
  | true => exact fun c o e n => b c o (a c o e n) n
  | false => exact Same.trans a b
def ReP (C : Cxt) (E : XK) (m : Bool) (S : AS) (σ : L2.St) (H : Hp) (Q : VK) : Option Re → Prop
  | none => False
  | some (.ok n d g') => ∀ v H', Rep C S g' σ H' → Mov m S H H' → Val C.K S H H' n v d → (n = true → ∀ p, v = .ref p → Rep C (S.add p) g' σ H') → Q v H'
  | some (.ex c g') => ∀ cv H', C.mg c = some cv → Rep C S g' σ H' → E cv none H'
def tv (C : Cxt) (E : XK) (m : Bool) (f : MF) : TE := fun σ H Q => ∃ S g, Rep C S g σ H ∧ ReP C E m S σ H Q (f g)
/-- a way from readings to readings -/
theorem PE.imp {X : Cx} {e : Expr} {t t' : TE} (h : PE X e t) (k : ∀ σ H Q, t' σ H Q → t σ H Q) : PE X e t' := ⟨fun pins s σ H Q I hw => h.run pins s σ H Q I (k σ H Q hw)⟩
theorem PT.imp {X : Cx} {e : Expr} {t t' : TT} (h : PT X e t) (k : ∀ σ H Q, t' σ H Q → t σ H Q) : PT X e t' := ⟨fun pins s σ H Q I hw => h.run pins s σ H Q I (k σ H Q hw)⟩
theorem PS.imp {X : Cx} {e : Stmt} {t t' : TS} (h : PS X e t) (k : ∀ D σ H, t' D σ H → t D σ H) : PS X e t' := ⟨fun pins s σ H D I hw => h.run pins s σ H D I (k D σ H hw)⟩
theorem PSs.imp {X : Cx} {e : List Stmt} {t t' : TS} (h : PSs X e t) (k : ∀ D σ H, t' D σ H → t D σ H) : PSs X e t' := ⟨fun pins s σ H D I hw => h.run pins s σ H D I (k D σ H hw)⟩
theorem PA.imp {X : Cx} {e : List Expr} {t t' : TA} (h : PA X e t) (k : ∀ σ H Q, t' σ H Q → t σ H Q) : PA X e t' := ⟨fun pos pins s σ H Q I hw => h.run pos pins s σ H Q I (k σ H Q hw)⟩

def andThen (f : MF) (k : Bool → D → MF) : MF := fun g => match f g with
  | some (.ok n d g') => k n d g'
  | r => r
theorem tv_then {C : Cxt} {E : XK} {m : Bool} {f : MF} {k : Bool → D → MF} {σ : L2.St} {H : Hp} {Q : VK} {R : VK} (h : tv C E m (andThen f k) σ H Q)
    (hk : ∀ S g n d v H1, Rep C S g σ H1 → Mov m S H H1 → Val C.K S H H1 n v d → ReP C E m S σ H Q (k n d g) → R v H1) : tv C E m f σ H R := by
  obtain ⟨S, g, r, h⟩ := h
  refine ⟨S, g, r, ?_⟩
  unfold andThen at h
  cases e : f g with
  | none => rw [e] at h; exact h
  | some z =>
    rw [e] at h
    cases z with
    | ok n d g' => exact fun v H' a b c _ => hk S g' n d v H' a b c h
    | ex c g' => exact h
/-- what is wanted from an earlier heap on is wanted from a later one on -/
theorem ReP.later {C : Cxt} {E : XK} {m : Bool} {S : AS} {σ : L2.St} {H H1 : Hp} {Q : VK} {r : Option Re} (h : ReP C E m S σ H Q r) (k : Mov m S H H1) (dm : ∀ a, S a → H1 a ≠ none) : ReP C E m S σ H1 Q r := by
  cases r with
  | none => exact h
  | some z =>
    cases z with
    | ok n d g' =>
      intro v H' a b c x
      refine h v H' a (k.trans b) ⟨c.1, fun hn => ?_⟩ x
      obtain ⟨p, e, hp, mo⟩ := c.2 hn
      refine ⟨p, e, ?_, mo⟩
      cases q : H p with
      | none => rfl
      | some o =>
        by_cases hs : S p
        · exact absurd hp (dm p hs)
        · rw [(k.stp p o q hs).1] at hp
          cases hp
    | ex c g' => exact h
theorem ReP.done {C : Cxt} {E : XK} {m : Bool} {S : AS} {σ : L2.St} {H H' : Hp} {Q : VK} {n : Bool} {d : D} {g : G} {v : V} (h : ReP C E m S σ H Q (some (.ok n d g))) (r : Rep C S g σ H) (e : Same H H') (c : Val C.K S H H' n v d) : Q v H' :=
  h v H' (r.grow e) (.of e) c fun hn p hv => by
    obtain ⟨p', e', hp, mo⟩ := c.2 hn
    rw [hv] at e'
    cases e'
    exact r.growNew e hp mo.there
theorem Val.flat {K : PySem.W.Frag} {S : Addr → Prop} {H H' : Hp} {v : V} {d : D} (h : Tr K S H' v d) : Val K S H H' false v d := ⟨h, fun z => nomatch z⟩
theorem Val.newL {K : PySem.W.Frag} {S : Addr → Prop} {H : Hp} {p : Addr} {xs : List V} {ds : List D} (hp : H p = none) (hs : ¬ S p) (t : TrL K S H xs ds) : Val K S H (upd H p (.lst xs)) true (.ref p) (.lst ds) :=
  ⟨.lst upd_same hs (t.stp (.ext (same_new hp))), fun _ => ⟨p, rfl, hp, xs, upd_same, t.stp (stp_new hp)⟩⟩
theorem Val.newE {K : PySem.W.Frag} {S : Addr → Prop} {H : Hp} {p : Addr} {xs : List (Key × V)} {ds : List (Key × D)} (hp : H p = none) (hs : ¬ S p) (t : TrE K S H xs ds) : Val K S H (upd H p (.dK xs)) true (.ref p) (.dic ds) :=
  ⟨.dic upd_same hs (t.stp (.ext (same_new hp))), fun _ => ⟨p, rfl, hp, xs, upd_same, t.stp (stp_new hp)⟩⟩
theorem Val.newT {K : PySem.W.Frag} {S : Addr → Prop} {H : Hp} {p : Addr} {xs : List V} {ds : List D} (hp : H p = none) (hs : ¬ S p) (t : TrL K S H xs ds) : Val K S H (upd H p (.tup xs)) false (.ref p) (.tup ds) :=
  .flat (.tup upd_same hs (t.stp (.ext (same_new hp))))
end TL
set_option Elab.async false
set_option linter.all false
set_option maxRecDepth 100000
set_option maxHeartbeats 4000000
namespace TL
open PySem PySem.Spec PyProof.Rows L2

abbrev Dom (S : Addr → Prop) (H : Hp) : Prop := ∀ a, S a → H a ≠ none
def L2r (K : PySem.W.Frag) (r : R2) (o : D → D → Option (Bool × D)) : Prop :=
  ∀ (S : Addr → Prop) (H : Hp) (x y : V) (d e : D) (n : Bool) (z : D) (Q : VK), Dom S H → Tr K S H x d → Tr K S H y e → o d e = some (n, z) → (∀ v H', Same H H' → Val K S H H' n v z → Q v H') → r x y H Q
def LC (K : PySem.W.Frag) (r : List V → Hp → VK → Prop) (o : List D → Option (Bool × D)) : Prop :=
  ∀ (S : Addr → Prop) (H : Hp) (xs : List V) (ds : List D) (n : Bool) (z : D) (Q : VK), Dom S H → TrL K S H xs ds → o ds = some (n, z) → (∀ v H', Same H H' → Val K S H H' n v z → Q v H') → r xs H Q
theorem notS {S : Addr → Prop} {H : Hp} (dm : Dom S H) {p : Addr} (hp : H p = none) : ¬ S p := fun z => dm p z hp
/-- either rule, where the one or the other operation answers -/
def orO (o o' : D → D → Option (Bool × D)) : D → D → Option (Bool × D) := fun d e => match o d e with
  | some z => some z
  | none => o' d e
theorem L2r.or {K : PySem.W.Frag} {r r' : R2} {o o' : D → D → Option (Bool × D)} (h : L2r K r o) (h' : L2r K r' o') : L2r K (fun x y H Q => r x y H Q ∨ r' x y H Q) (orO o o') := fun S H x y d e n z Q dm tx ty ho k => by
  unfold orO at ho
  cases q : o d e with
  | some w => rw [q] at ho; exact .inl (h S H x y d e n z Q dm tx ty (q.trans ho) k)
  | none => rw [q] at ho; exact .inr (h' S H x y d e n z Q dm tx ty ho k)
def orC (o o' : List D → Option (Bool × D)) : List D → Option (Bool × D) := fun ds => match o ds with
  | some z => some z
  | none => o' ds
theorem LC.or {K : PySem.W.Frag} {r r' : List V → Hp → VK → Prop} {o o' : List D → Option (Bool × D)} (h : LC K r o) (h' : LC K r' o') : LC K (fun xs H Q => r xs H Q ∨ r' xs H Q) (orC o o') := fun S H xs ds n z Q dm t ho k => by
  unfold orC at ho
  cases q : o ds with
  | some w => rw [q] at ho; exact .inl (h S H xs ds n z Q dm t (q.trans ho) k)
  | none => rw [q] at ho; exact .inr (h' S H xs ds n z Q dm t ho k)

def mVar (i : Nat) : MF := fun g => match g[i]? with
  | some (.im d) => some (.ok false d g)
  | _ => none
def mC (d : D) : MF := fun g => some (.ok false d g)
def mFail : MF := fun _ => none
section
variable {X : Cx} {C : Cxt} {E : XK} {m : Bool} {x : Str} {pos : Pos}
theorem tv_var {i : Nat} {σ : L2.St} {H : Hp} {Q : VK} (h : tv C E m (mVar i) σ H Q) : tVar i σ H Q := by
  obtain ⟨S, g, r, h⟩ := h
  unfold mVar at h
  cases e : g[i]? with
  | none => rw [e] at h; exact h.elim
  | some sd =>
    rw [e] at h
    cases sd with
    | im d =>
      obtain ⟨v, h1, h2⟩ := r.im i d e
      exact ⟨v, h1, h.done r (Same.refl H) (.flat h2)⟩
    | _ => exact h.elim
theorem e_var {i : Nat} (h : PE X (.Name x pos) (tVar i)) : PE X (.Name x pos) (tv C E m (mVar i)) := PE.imp h fun _ _ _ => tv_var
theorem e_c {e : Expr} {v : V} {d : D} (h : PE X e (tC v)) (t : ∀ S H, Tr C.K S H v d) : PE X e (tv C E m (mC d)) := PE.imp h fun σ H Q hw => by
  obtain ⟨S, g, r, hw⟩ := hw
  exact ReP.done hw r (Same.refl H) (.flat (t S H))
theorem e_int {i j pos} : PE X (.Constant (.int i) j pos) (tv C E m (mC (.int i))) := e_c pe_int fun _ _ => .int i
theorem e_str {i j pos} : PE X (.Constant (.str i) j pos) (tv C E m (mC (.str i))) := e_c pe_str fun _ _ => .str i
theorem e_bl {i j pos} : PE X (.Constant (.bool i) j pos) (tv C E m (mC (.bl i))) := e_c pe_bl fun _ _ => .bl i
theorem e_non {j pos} : PE X (.Constant .none j pos) (tv C E m (mC .non)) := e_c pe_non fun _ _ => .non
/-- a built-in's or a class's name as a value -/
theorem e_ty {v : V} {u : Value} (hg : Gl X x) (hm : X.mg x = none) (hv : bootBuiltins x = some u) (r : RelV v u) (hn : x ≠ "__name__" := by decide) (hd : (x == ("__debug__" : Str)) = false := by decide) : PE X (.Name x pos) (tv C E m (mC (.ob v))) :=
  e_c (pe_bltn hg hm hv r hn hd) fun _ _ => .ob v
theorem e_glob {v : V} {u : Value} {d : D} (hg : Gl X x) (hm : X.mg x = some u) (r : RelV v u) (t : ∀ S H, Tr C.K S H v d) (hd : (x == ("__debug__" : Str)) = false := by decide) : PE X (.Name x pos) (tv C E m (mC d)) :=
  e_c (pe_glob hg hm r hd) t
end

def mBin (o : D → D → Option (Bool × D)) (f1 f2 : MF) : MF := andThen f1 fun _ d => andThen f2 fun _ e g => match o d e with
  | some (n, z) => some (.ok n z g)
  | none => none
section
variable {X : Cx} {C : Cxt} {E : XK} {m : Bool} {pos : Pos} {a b : Expr} {f1 f2 f3 : MF} {r r' : R2} {o o' : D → D → Option (Bool × D)}
theorem tv_bin (l : L2r C.K r o) {σ : L2.St} {H : Hp} {Q : VK} (h : tv C E m (mBin o f1 f2) σ H Q) : tOp r (tv C E m f1) (tv C E m f2) σ H Q := by
  refine tv_then h fun S g n d v H1 rp mv vl q => ?_
  have q2 : tv C E m (andThen f2 fun _ e g => match o d e with
    | some (n, z) => some (.ok n z g)
    | none => none) σ H1 Q := ⟨S, g, rp, q.later mv rp.dom⟩
  obtain ⟨S2, g2, rp2, q3⟩ := q2
  refine ⟨S, g, rp, ?_⟩
  have q4 := q.later mv rp.dom
  unfold andThen at q4
  cases e2 : f2 g with
  | none => rw [e2] at q4; exact q4
  | some z =>
    rw [e2] at q4
    cases z with
    | ex c g' => exact q4
    | ok n2 w g' =>
      intro u H2 rp2 mv2 vl2 _
      simp only at q4
      cases e3 : o d w with
      | none => rw [e3] at q4; exact q4.elim
      | some z =>
        obtain ⟨n3, z⟩ := z
        rw [e3] at q4
        have q5 := ReP.later q4 mv2 rp2.dom
        exact l S H2 v u d w n3 z Q rp2.dom (Tr.stp mv2.stp d v vl.1) vl2.1 e3 fun v' H' sm vl' => q5.done rp2 sm vl'
theorem e_op {op : Operator} (ho : OpR X (binaryOp op) r) (l : L2r C.K r o) (ha : PE X a (tv C E m f1)) (hb : PE X b (tv C E m f2)) : PE X (.BinOp a op b pos) (tv C E m (mBin o f1 f2)) :=
  PE.imp (pe_op ho ha hb) fun _ _ _ => tv_bin l
theorem e_cmp {op : CmpOp} (ho : OpR X (compareOp op) r) (l : L2r C.K r o) (ha : PE X a (tv C E m f1)) (hb : PE X b (tv C E m f2)) (hm : behindInMarks op b = false := by with_unfolding_all rfl) : PE X (.Compare a [op] [b] pos) (tv C E m (mBin o f1 f2)) :=
  PE.imp (pe_cmpR ho ha hb hm) fun _ _ _ => tv_bin l
theorem e_ix (ho : IxR X r) (l : L2r C.K r o) (ha : PE X a (tv C E m f1)) (hb : PE X b (tv C E m f2)) (hs : PlainIx b := by intro _ _; rfl) : PE X (.Subscript a b pos) (tv C E m (mBin o f1 f2)) :=
  PE.imp (pe_ix ho ha hb hs) fun _ _ _ => tv_bin l
end

def truth : D → Option Bool
  | .non => some false
  | .bl b => some b
  | .int i => some (i != 0)
  | .str s => if s.length ≤ sizeLine then some ((s.length : Int) != 0) else none
  | .lst xs => some (!xs.isEmpty)
  | .tup xs => some (!xs.isEmpty)
  | .dic xs => some (!xs.isEmpty)
  | _ => none
def TbP (C : Cxt) (E : XK) (m : Bool) (S : AS) (σ : L2.St) (H : Hp) (Q : Bool → Hp → Prop) : Option Re → Prop
  | none => False
  | some (.ok _ d g') => ∃ k, truth d = some k ∧ ∀ H', Rep C S g' σ H' → Mov m S H H' → Q k H'
  | some (.ex c g') => ∀ cv H', C.mg c = some cv → Rep C S g' σ H' → E cv none H'
def tb (C : Cxt) (E : XK) (m : Bool) (f : MF) : TT := fun σ H Q => ∃ S g, Rep C S g σ H ∧ TbP C E m S σ H Q (f g)
/-- only bools -/
def mBool (f : MF) : MF := andThen f fun _ d g => match d with
  | .bl b => some (.ok false (.bl b) g)
  | _ => none
section
variable {X : Cx} {C : Cxt} {E : XK} {m : Bool} {pos : Pos} {a b c : Expr} {f f1 f2 f3 : MF} {r r' : R2} {o o' : D → D → Option (Bool × D)} {σ : L2.St} {H : Hp} {Q : Bool → Hp → Prop}
theorem TbP.later {S : AS} {H1 : Hp} {r : Option Re} (h : TbP C E m S σ H Q r) (k : Mov m S H H1) : TbP C E m S σ H1 Q r := by
  cases r with
  | none => exact h
  | some z =>
    cases z with
    | ok n d g' =>
      obtain ⟨b, e, q⟩ := h
      exact ⟨b, e, fun H' a c => q H' a (k.trans c)⟩
    | ex c g' => exact h
theorem tb_bool (h : tb C E m (mBool f) σ H Q) : tv C E m f σ H fun v H' => ∃ k, v = .bl k ∧ Q k H' := by
  obtain ⟨S, g, rp, h⟩ := h
  refine ⟨S, g, rp, ?_⟩
  unfold mBool andThen at h
  cases e : f g with
  | none => rw [e] at h; exact h
  | some z =>
    rw [e] at h
    cases z with
    | ex c g' => exact h
    | ok n d g' =>
      intro v H' r1 m1 v1 _
      cases d with
      | bl b =>
        obtain ⟨k, e1, q⟩ := h
        have e2 : b = k := Option.some.inj e1
        subst e2
        cases v1.1
        exact ⟨b, rfl, q H' r1 m1⟩
      | _ => exact h.elim
theorem tru_of {K : PySem.W.Frag} {S : Addr → Prop} {v : V} {d : D} {k : Bool} {H : Hp} (t : Tr K S H v d) (e : truth d = some k) : TruV K v H k := by
  cases d with
  | non => cases t; exact (Option.some.inj e).symm
  | bl b => cases t; exact (Option.some.inj e).symm
  | int b => cases t; exact (Option.some.inj e).symm
  | str s =>
    cases t
    replace e : (if s.length ≤ sizeLine then some ((s.length : Int) != 0) else none) = some k := e
    by_cases z : s.length ≤ sizeLine
    · rw [if_pos z] at e
      exact ⟨z, (Option.some.inj e).symm⟩
    · rw [if_neg z] at e
      cases e
  | lst xs =>
    cases t with
    | lst h n t =>
      refine .inl ⟨_, SqL.of h, ?_⟩
      rw [← Option.some.inj e]
      cases t <;> rfl
  | tup xs =>
    cases t with
    | tup h n t =>
      refine .inr (.inl ⟨_, SqT.of h, ?_⟩)
      rw [← Option.some.inj e]
      cases t <;> rfl
    | tupK h t =>
      refine .inr (.inl ⟨_, h H, ?_⟩)
      rw [← Option.some.inj e]
      cases t <;> rfl
  | dic xs =>
    cases t with
    | dic h n t =>
      refine .inr (.inr ⟨_, h, ?_⟩)
      rw [← Option.some.inj e]
      cases t <;> rfl
  | _ => cases e
theorem t_cmp {op : CmpOp} (ho : OpR X (compareOp op) r) (l : L2r C.K r o) (ha : PE X a (tv C E m f1)) (hb : PE X b (tv C E m f2)) (hm : behindInMarks op b = false := by with_unfolding_all rfl) : PT X (.Compare a [op] [b] pos) (tb C E m (mBool (mBin o f1 f2))) :=
  PT.imp (pt_cmpR ho ha hb hm) fun _ _ _ h => tv_bin l (tb_bool h)
theorem t_truth (h : PE X a (tv C E m f)) (hK : X.K = C.K := by rfl) (he : ∀ whole, isTrue a X.env whole = (do let v ← whole; standAt a.pos; holding [v] (truthy v)) := by intro _; rfl) : PT X a (tb C E m f) :=
  PT.imp (pt_truth h he) fun σ H Q h => by
    obtain ⟨S, g, rp, h⟩ := h
    refine ⟨S, g, rp, ?_⟩
    cases e : f g with
    | none => rw [e] at h; exact h
    | some z =>
      rw [e] at h
      cases z with
      | ex c g' => exact h
      | ok n d g' =>
        obtain ⟨k, e1, q⟩ := h
        exact fun v H' r1 m1 v1 _ => ⟨k, by rw [hK]; exact tru_of v1.1 e1, q H' r1 m1⟩
/-- and, or, not as tests -/
def mAndT (f1 f2 : MF) : MF := andThen f1 fun _ d g => match truth d with
  | some true => f2 g
  | some false => some (.ok false (.bl false) g)
  | none => none
def mOrT (f1 f2 : MF) : MF := andThen f1 fun _ d g => match truth d with
  | some true => some (.ok false (.bl true) g)
  | some false => f2 g
  | none => none
def mNotT (f1 : MF) : MF := andThen f1 fun _ d g => match truth d with
  | some b => some (.ok false (.bl (!b)) g)
  | none => none
theorem tb_then {k : Bool → D → MF} {R : Bool → Hp → Prop} (h : tb C E m (andThen f k) σ H Q) (hk : ∀ S g n d H1, Rep C S g σ H1 → Mov m S H H1 → TbP C E m S σ H1 Q (k n d g) → ∃ b, truth d = some b ∧ R b H1)
    (hf : ∀ n d g, (∀ b, truth d ≠ some b) → k n d g = none) : tb C E m f σ H R := by
  obtain ⟨S, g, rp, h⟩ := h
  refine ⟨S, g, rp, ?_⟩
  unfold andThen at h
  cases e : f g with
  | none => rw [e] at h; exact h
  | some z =>
    rw [e] at h
    cases z with
    | ex c g' => exact h
    | ok n d g' =>
      cases et : truth d with
      | none =>
        have hh : TbP C E m S σ H Q (k n d g') := h
        rw [hf n d g' (fun b z => by rw [et] at z; cases z)] at hh
        exact hh.elim
      | some b =>
        refine ⟨b, et, fun H' r1 m1 => ?_⟩
        obtain ⟨b', e', q⟩ := hk S g' n d H' r1 m1 (TbP.later h m1)
        rw [et] at e'
        cases e'
        exact q
theorem tb_and (h : tb C E m (mAndT f1 f2) σ H Q) : tAnd (tb C E m f1) (tb C E m f2) σ H Q := by
  refine tb_then h (fun S g n d H1 rp mv q => ?_) fun n d g z => ?_
  · cases e : truth d with
    | none => rw [e] at q; exact q.elim
    | some b =>
      rw [e] at q
      refine ⟨b, rfl, ?_⟩
      cases b with
      | true => exact iteT ⟨S, g, rp, q⟩
      | false =>
        obtain ⟨k, e2, q⟩ := q
        have e3 : false = k := Option.some.inj e2
        subst e3
        exact iteF (q H1 rp (.of (Same.refl _)))
  · cases e : truth d with
    | none => rfl
    | some b => exact absurd e (z b)
theorem tb_or (h : tb C E m (mOrT f1 f2) σ H Q) : tOr (tb C E m f1) (tb C E m f2) σ H Q := by
  refine tb_then h (fun S g n d H1 rp mv q => ?_) fun n d g z => ?_
  · cases e : truth d with
    | none => rw [e] at q; exact q.elim
    | some b =>
      rw [e] at q
      refine ⟨b, rfl, ?_⟩
      cases b with
      | false => exact iteF ⟨S, g, rp, q⟩
      | true =>
        obtain ⟨k, e2, q⟩ := q
        have e3 : true = k := Option.some.inj e2
        subst e3
        exact iteT (q H1 rp (.of (Same.refl _)))
  · cases e : truth d with
    | none => rfl
    | some b => exact absurd e (z b)
theorem tb_not (h : tb C E m (mNotT f1) σ H Q) : tNot (tb C E m f1) σ H Q := by
  refine tb_then h (fun S g n d H1 rp mv q => ?_) fun n d g z => ?_
  · cases e : truth d with
    | none => rw [e] at q; exact q.elim
    | some b =>
      rw [e] at q
      obtain ⟨k, e2, q⟩ := q
      have e3 : (!b) = k := Option.some.inj e2
      subst e3
      exact ⟨b, rfl, q H1 rp (.of (Same.refl _))⟩
  · cases e : truth d with
    | none => rfl
    | some b => exact absurd e (z b)
theorem PW.imp {e : Expr} {t t' : TT} (h : PW X e t) (k : ∀ σ H Q, t' σ H Q → t σ H Q) : PW X e t' := ⟨fun wh pins s σ H Q I hw => h.run wh pins s σ H Q I (k σ H Q hw)⟩
variable {rest : List Expr}
theorem w_and1 (ha : PT X a (tb C E m f)) : PW X (.BoolOp .And [a] pos) (tb C E m f) := pw_and1 ha
theorem w_or1 (ha : PT X a (tb C E m f)) : PW X (.BoolOp .Or [a] pos) (tb C E m f) := pw_or1 ha
theorem w_and (ha : PT X a (tb C E m f1)) (hb : PW X (.BoolOp .And (b :: rest) pos) (tb C E m f2)) : PW X (.BoolOp .And (a :: b :: rest) pos) (tb C E m (mAndT f1 f2)) := PW.imp (pw_and ha hb) fun _ _ _ => tb_and
theorem w_or (ha : PT X a (tb C E m f1)) (hb : PW X (.BoolOp .Or (b :: rest) pos) (tb C E m f2)) : PW X (.BoolOp .Or (a :: b :: rest) pos) (tb C E m (mOrT f1 f2)) := PW.imp (pw_or ha hb) fun _ _ _ => tb_or
theorem t_not (ha : PT X a (tb C E m f)) : PT X (.UnaryOp .Not a pos) (tb C E m (mNotT f)) := PT.imp (pt_not ha) fun _ _ _ => tb_not

def mAndV (f1 f2 : MF) : MF := andThen f1 fun _ d g => match d with
  | .bl true => f2 g
  | .bl false => some (.ok false (.bl false) g)
  | _ => none
def mOrV (f1 f2 : MF) : MF := andThen f1 fun _ d g => match d with
  | .bl false => f2 g
  | .bl true => some (.ok false (.bl true) g)
  | _ => none
def mNotV (f1 : MF) : MF := andThen f1 fun _ d g => match d with
  | .bl b => some (.ok false (.bl (!b)) g)
  | _ => none
variable {QV : VK}
theorem tv_andV (h : tv C E m (mAndV f1 f2) σ H QV) : tAndV (tv C E m f1) (tv C E m f2) σ H QV := by
  refine tv_then h fun S g n d v H1 rp mv vl q => ?_
  have q := q.later mv rp.dom
  cases d with
  | bl b =>
    cases vl.1
    refine ⟨b, rfl, ?_⟩
    cases b with
    | true => exact iteT ⟨S, g, rp, q⟩
    | false => exact iteF (q.done rp (Same.refl _) (.flat (.bl false)))
  | _ => exact q.elim
theorem e_one {op} (h : PE X a (tv C E m f)) : PE X (.BoolOp op [a] pos) (tv C E m f) := pe_one h
theorem e_and (ha : PE X a (tv C E m f1)) (hb : PE X (.BoolOp .And (b :: rest) pos) (tv C E m f2)) : PE X (.BoolOp .And (a :: b :: rest) pos) (tv C E m (mAndV f1 f2)) := PE.imp (pe_and ha hb) fun _ _ _ => tv_andV
/-- a if c else b -/
def mIf (c f1 f2 : MF) : MF := andThen c fun _ d g => match truth d with
  | some true => f1 g
  | some false => f2 g
  | none => none
/-- one operand -/
def L1r (K : PySem.W.Frag) (r : V → Hp → VK → Prop) (o : D → Option (Bool × D)) : Prop :=
  ∀ (S : Addr → Prop) (H : Hp) (x : V) (d : D) (n : Bool) (z : D) (Q : VK), Dom S H → Tr K S H x d → o d = some (n, z) → (∀ v H', Same H H' → Val K S H H' n v z → Q v H') → r x H Q
def mUn (o : D → Option (Bool × D)) (f : MF) : MF := andThen f fun _ d g => match o d with
  | some (n, z) => some (.ok n z g)
  | none => none
theorem tv_un {r : V → Hp → VK → Prop} {o : D → Option (Bool × D)} (l : L1r C.K r o) (h : tv C E m (mUn o f) σ H QV) : tUn r (tv C E m f) σ H QV := by
  refine tv_then h fun S g n d v H1 rp mv vl q => ?_
  have q := q.later mv rp.dom
  cases e : o d with
  | none => rw [e] at q; exact q.elim
  | some z =>
    obtain ⟨n2, z⟩ := z
    rw [e] at q
    exact l S H1 v d n2 z QV rp.dom vl.1 e fun v' H' sm vl' => q.done rp sm vl'
theorem e_un {op : UnaryOp} {r : V → Hp → VK → Prop} {o : D → Option (Bool × D)} (ho : UnR X (unaryOp op) r) (l : L1r C.K r o) (ha : PE X a (tv C E m f)) : PE X (.UnaryOp op a pos) (tv C E m (mUn o f)) := PE.imp (pe_un ho ha) fun _ _ _ => tv_un l
end

inductive Ra where
  | ok (ds : List D) (g : G)
  | ex (c : Str) (g : G)
abbrev MA := G → Option Ra
def RaP (C : Cxt) (E : XK) (m : Bool) (S : AS) (σ : L2.St) (H : Hp) (Q : List V → Hp → Prop) : Option Ra → Prop
  | none => False
  | some (.ok ds g') => ∀ vs H', Rep C S g' σ H' → Mov m S H H' → TrL C.K S H' vs ds → Q vs H'
  | some (.ex c g') => ∀ cv H', C.mg c = some cv → Rep C S g' σ H' → E cv none H'
def ta (C : Cxt) (E : XK) (m : Bool) (f : MA) : TA := fun σ H Q => ∃ S g, Rep C S g σ H ∧ RaP C E m S σ H Q (f g)
def aNil : MA := fun g => some (.ok [] g)
def aCons (f : MF) (fs : MA) : MA := fun g => match f g with
  | none => none
  | some (.ex c g') => some (.ex c g')
  | some (.ok _ d g') => match fs g' with
    | none => none
    | some (.ex c g2) => some (.ex c g2)
    | some (.ok ds g2) => some (.ok (d :: ds) g2)
section
variable {X : Cx} {C : Cxt} {E : XK} {m : Bool} {pos : Pos} {e : Expr} {es : List Expr} {f : MF} {fs : MA} {σ : L2.St} {H : Hp} {Q : VK}
theorem a_nil : PA X [] (ta C E m aNil) := PA.imp pa_nil fun σ H Q h => by
  obtain ⟨S, g, rp, h⟩ := h
  exact h [] H rp (.of (Same.refl _)) .nil
theorem a_cons (he : PE X e (tv C E m f)) (hs : PA X es (ta C E m fs)) (hst : starEach (e :: es) X.env = (false, eval e X.env) :: starEach es X.env := by rfl) : PA X (e :: es) (ta C E m (aCons f fs)) := PA.imp (pa_cons he hs hst) fun σ H Q h => by
  obtain ⟨S, g, rp, h⟩ := h
  refine ⟨S, g, rp, ?_⟩
  unfold aCons at h
  cases e1 : f g with
  | none => rw [e1] at h; exact h
  | some z =>
    rw [e1] at h
    cases z with
    | ex c g' => exact h
    | ok n d g' =>
      intro v H1 r1 m1 v1 _
      refine ⟨S, g', r1, ?_⟩
      simp only at h
      cases e2 : fs g' with
      | none => rw [e2] at h; exact h.elim
      | some z =>
        rw [e2] at h
        cases z with
        | ex c g2 => exact h
        | ok ds g2 => exact fun vs H2 r2 m2 v2 => h (v :: vs) H2 r2 (m1.trans m2) (.cons (Tr.stp m2.stp d v v1.1) v2)
/-- after the arguments -/
def aThen (fs : MA) (k : List D → MF) : MF := fun g => match fs g with
  | none => none
  | some (.ex c g') => some (.ex c g')
  | some (.ok ds g') => k ds g'
theorem ra_then {S : AS} {g : G} {k : List D → MF} {R : List V → Hp → Prop} (h : ReP C E m S σ H Q (aThen fs k g))
    (hk : ∀ g ds vs H1, Rep C S g σ H1 → Mov m S H H1 → TrL C.K S H1 vs ds → ReP C E m S σ H1 Q (k ds g) → R vs H1) : RaP C E m S σ H R (fs g) := by
  unfold aThen at h
  cases e1 : fs g with
  | none => rw [e1] at h; exact h
  | some z =>
    rw [e1] at h
    cases z with
    | ex c g' => exact h
    | ok ds g' => exact fun vs H1 r1 m1 v1 => hk g' ds vs H1 r1 m1 v1 (ReP.later h m1 r1.dom)
theorem ta_then {k : List D → MF} {R : List V → Hp → Prop} (h : tv C E m (aThen fs k) σ H Q) (hk : ∀ S g ds vs H1, Rep C S g σ H1 → Mov m S H H1 → TrL C.K S H1 vs ds → ReP C E m S σ H1 Q (k ds g) → R vs H1) : ta C E m fs σ H R := by
  obtain ⟨S, g, rp, h⟩ := h
  exact ⟨S, g, rp, ra_then h (hk S)⟩
/-- displays -/
def mLst (fs : MA) : MF := aThen fs fun ds g => if ds.length ≤ sizeLine then some (.ok true (.lst ds) g) else none
def mTup (fs : MA) : MF := aThen fs fun ds g => if ds.length ≤ sizeLine then some (.ok false (.tup ds) g) else none
theorem e_lst (h : PA X es (ta C E m fs)) : PE X (.List es pos) (tv C E m (mLst fs)) := PE.imp (pe_lst h) fun σ H Q h => by
  refine ta_then h fun S g ds vs H1 rp mv t q => ?_
  by_cases z : ds.length ≤ sizeLine
  · rw [if_pos z] at q
    exact ⟨by rw [t.length]; exact z, fun p hp => q.done rp (same_new hp) (Val.newL hp (rp.fresh hp) t)⟩
  · rw [if_neg z] at q
    exact q.elim
theorem e_tup {x1} (h : PA X es (ta C E m fs)) : PE X (.Tuple es x1 pos) (tv C E m (mTup fs)) := PE.imp (pe_tup h) fun σ H Q h => by
  refine ta_then h fun S g ds vs H1 rp mv t q => ?_
  by_cases z : ds.length ≤ sizeLine
  · rw [if_pos z] at q
    exact ⟨by rw [t.length]; exact z, fun p hp => q.done rp (same_new hp) (Val.newT hp (rp.fresh hp) t)⟩
  · rw [if_neg z] at q
    exact q.elim
/-- built-in functions and types, called -/
def mB (o : List D → Option (Bool × D)) (fs : MA) : MF := aThen fs fun ds g => match o ds with
  | some (n, z) => some (.ok n z g)
  | none => none
theorem tv_B {r : List V → Hp → VK → Prop} {o : List D → Option (Bool × D)} (l : LC C.K r o) (h : tv C E m (mB o fs) σ H Q) : tCB r (ta C E m fs) σ H Q := by
  refine ta_then h fun S g ds vs H1 rp mv t q => ?_
  cases e : o ds with
  | none => rw [e] at q; exact q.elim
  | some z =>
    obtain ⟨n, z⟩ := z
    rw [e] at q
    exact l S H1 vs ds n z Q rp.dom t e fun v' H' sm vl' => q.done rp sm vl'
variable {x : Str} {p : Pos} {id T : String} {r : List V → Hp → VK → Prop} {o : List D → Option (Bool × D)}
theorem e_callB (hc : CallR X (.builtin id) r) (l : LC C.K r o) (hg : Gl X x) (hm : X.mg x = none) (hv : bootBuiltins x = some (.builtin id)) (ha : PA X (e :: es) (ta C E m fs)) (hn : x ≠ "__name__" := by decide) (hdb : (x == ("__debug__" : Str)) = false := by decide)
    (he : starEach (e :: es) X.env = (false, eval e X.env) :: starEach es X.env := by rfl) (hpl : (backTo pos (starEach es X.env)).any (·.1) = false := by rfl) : PE X (.Call (.Name x p) (e :: es) [] pos) (tv C E m (mB o fs)) :=
  PE.imp (pe_callB hc hg hm hv ha hn hdb he hpl) fun _ _ _ => tv_B l
theorem e_callTy (hc : CallR X (.type T) r) (l : LC C.K r o) (hg : Gl X x) (hm : X.mg x = none) (hv : bootBuiltins x = some (.type T)) (ha : PA X (e :: es) (ta C E m fs)) (hn : x ≠ "__name__" := by decide) (hdb : (x == ("__debug__" : Str)) = false := by decide)
    (he : starEach (e :: es) X.env = (false, eval e X.env) :: starEach es X.env := by rfl) (hpl : (backTo pos (starEach es X.env)).any (·.1) = false := by rfl) : PE X (.Call (.Name x p) (e :: es) [] pos) (tv C E m (mB o fs)) :=
  PE.imp (pe_callTy hc hg hm hv ha hn hdb he hpl) fun _ _ _ => tv_B l
end

def isTy : String → D → Bool
  | T, .str _ => T == "str"
  | T, .lst _ => T == "list"
  | T, .dic _ => T == "dict"
  | _, _ => false
theorem ty_of {K : PySem.W.Frag} {S : Addr → Prop} {H : Hp} {T : String} {x : V} {d : D} (t : Tr K S H x d) (h : isTy T d = true) : tyV K T x H := by
  cases d with
  | str s => cases t; exact eq_of_beq h
  | lst s =>
    cases t with
    | lst h2 n t => exact .inl ⟨eq_of_beq h, _, SqL.of h2⟩
  | dic s =>
    cases t with
    | dic h2 n t => exact .inr (.inr (.inl ⟨eq_of_beq h, .inl ⟨_, h2⟩⟩))
  | _ => exact absurd (show false = true from h) Bool.false_ne_true
def LM (K : PySem.W.Frag) (r : V → List V → Hp → VK → Prop) (o : D → List D → Option (Bool × D)) : Prop :=
  ∀ (S : Addr → Prop) (H : Hp) (x : V) (d : D) (xs : List V) (ds : List D) (n : Bool) (z : D) (Q : VK), Dom S H → Tr K S H x d → TrL K S H xs ds → o d ds = some (n, z) → (∀ v H', Same H H' → Val K S H H' n v z → Q v H') → r x xs H Q
def mM (T : String) (o : D → List D → Option (Bool × D)) (f : MF) (fs : MA) : MF := andThen f fun _ d => if isTy T d = true then aThen fs fun ds g => match o d ds with
  | some (n, z) => some (.ok n z g)
  | none => none
  else mFail
section
variable {X : Cx} {C : Cxt} {E : XK} {m : Bool} {cpos apos : Pos} {e o : Expr} {es : List Expr} {f : MF} {fs : MA} {σ : L2.St} {H : Hp} {Q : VK} {T id : String} {name : Str} {r : V → List V → Hp → VK → Prop} {op : D → List D → Option (Bool × D)}
theorem tv_M (hK : X.K = C.K) (l : LM C.K r op) (h : tv C E m (mM T op f fs) σ H Q) : tBM X.K T r (tv C E m f) (ta C E m fs) σ H Q := by
  refine tv_then h fun S g n d v H1 rp mv vl q => ?_
  have q := q.later mv rp.dom
  by_cases z : isTy T d = true
  · rw [if_pos z] at q
    refine ⟨by rw [hK]; exact ty_of vl.1 z, ?_⟩
    refine ⟨S, g, rp, ra_then q fun g2 ds vs H2 rp2 mv2 t2 q2 => ?_⟩
    cases e : op d ds with
    | none => rw [e] at q2; exact q2.elim
    | some z =>
      obtain ⟨n, z⟩ := z
      rw [e] at q2
      exact l S H2 v d vs ds n z Q rp2.dom (Tr.stp mv2.stp d v vl.1) t2 e fun v' H' sm vl' => q2.done rp2 sm vl'
  · rw [if_neg z] at q
    exact q.elim
theorem e_m (hK : X.K = C.K) (l : LM C.K r op) (h : PE X e (tBM X.K T r (tv C E m f) (ta C E m fs))) : PE X e (tv C E m (mM T op f fs)) := PE.imp h fun _ _ _ => tv_M hK l
end
end TL
set_option Elab.async false
set_option linter.all false
set_option maxRecDepth 100000
set_option maxHeartbeats 4000000
namespace TL
open PySem PySem.Spec PyProof.Rows L2

def addD : D → D → Option (Bool × D)
  | .int i, .int j => some (false, .int (i + j))
  | .str x, .str y => if x.length + y.length ≤ sizeLine then some (false, .str (x ++ y)) else none
  | .lst xs, .lst ys => if xs.length + ys.length ≤ sizeLine then some (true, .lst (xs ++ ys)) else none
  | _, _ => none
def subD : D → D → Option (Bool × D)
  | .int i, .int j => some (false, .int (i - j))
  | _, _ => none
instance (i j : Int) : Decidable (CMul i j) := by unfold CMul; infer_instance
instance (i j : Int) : Decidable (CDiv i j) := by unfold CDiv; infer_instance
instance (i j : Int) : Decidable (CPow i j) := by unfold CPow; infer_instance
def mulD : D → D → Option (Bool × D)
  | .int i, .int j => if CMul i j then some (false, .int (i * j)) else none
  | .lst xs, .int k => if -(2 ^ 63) ≤ k ∧ k < 2 ^ 63 ∧ xs.length * k.toNat ≤ sizeLine then some (true, .lst (List.replicate k.toNat xs).flatten) else none
  | _, _ => none
def fdivD : D → D → Option (Bool × D)
  | .int i, .int j => if CDiv i j then some (false, .int (i / j)) else none
  | _, _ => none
def modD : D → D → Option (Bool × D)
  | .int i, .int j => if 0 < j then some (false, .int (i % j)) else none
  | _, _ => none
def powD : D → D → Option (Bool × D)
  | .int i, .int j => if CPow i j then some (false, .int (i ^ j.toNat)) else none
  | _, _ => none
section
variable {K : PySem.W.Frag} {X : Cx}
theorem fin1 {S : Addr → Prop} {H : Hp} {Q : VK} {n : Bool} {v : V} {d z : D} (e : some (false, d) = some (n, z)) (t : Tr K S H v d) (k : ∀ v H', Same H H' → Val K S H H' n v z → Q v H') : Q v H := by
  cases e
  exact k v H (Same.refl H) (.flat t)
theorem finL {S : Addr → Prop} {H : Hp} {Q : VK} {n : Bool} {xs : List V} {ds : List D} {z : D} (dm : Dom S H) (e : some (true, D.lst ds) = some (n, z)) (t : TrL K S H xs ds) (k : ∀ v H', Same H H' → Val K S H H' n v z → Q v H') : ∀ p, H p = none → Q (.ref p) (upd H p (.lst xs)) := fun p hp => by
  cases e
  exact k _ _ (same_new hp) (Val.newL hp (notS dm hp) t)
abbrev rAddA : R2 := fun x y H Q => (rI0 (fun i j => .int (i + j)) x y H Q ∨ (∃ i j, x = .str i ∧ y = .str j ∧ i.length + j.length ≤ sizeLine ∧ Q (.str (i ++ j)) H)) ∨ rCat x y H Q
theorem o_add : OpR X (binaryOp .Add) rAddA := (op_add.or op_add_str).or op_cat
theorem l_add : L2r K rAddA addD := fun S H x y d e n z Q dm tx ty ho k => by
  unfold addD at ho
  split at ho
  · cases tx; cases ty
    exact .inl (.inl ⟨_, _, rfl, rfl, fin1 ho (.int _) k⟩)
  · cases tx; cases ty
    split at ho
    · rename_i hz
      exact .inl (.inr ⟨_, _, rfl, rfl, hz, fin1 ho (.str _) k⟩)
    · cases ho
  · cases tx with
    | lst h1 n1 t1 =>
      cases ty with
      | lst h2 n2 t2 =>
        split at ho
        · rename_i hz
          exact .inr ⟨_, _, _, _, rfl, rfl, h1, h2, by rw [t1.length, t2.length]; exact hz, finL dm ho (t1.append t2) k⟩
        · cases ho
  · cases ho
theorem o_sub : OpR X (binaryOp .Sub) (rI0 fun i j => .int (i - j)) := op_sub
theorem l_sub : L2r K (rI0 fun i j => .int (i - j)) subD := fun S H x y d e n z Q dm tx ty ho k => by
  unfold subD at ho
  split at ho
  · cases tx; cases ty
    exact ⟨_, _, rfl, rfl, fin1 ho (.int _) k⟩
  · cases ho
abbrev rMulA : R2 := fun x y H Q => rI CMul (fun i j => .int (i * j)) x y H Q ∨ rRep x y H Q
theorem o_mul : OpR X (binaryOp .Mult) rMulA := op_mul.or op_rep
theorem l_mul : L2r K rMulA mulD := fun S H x y d e n z Q dm tx ty ho k => by
  unfold mulD at ho
  split at ho
  · cases tx; cases ty
    split at ho
    · rename_i hz
      exact .inl ⟨_, _, rfl, rfl, hz, fin1 ho (.int _) k⟩
    · cases ho
  · cases ty
    cases tx with
    | lst h1 n1 t1 =>
      split at ho
      · rename_i hz
        exact .inr ⟨_, _, _, rfl, rfl, h1, hz.1, hz.2.1, by rw [t1.length]; exact hz.2.2, finL dm ho (t1.rep _) k⟩
      · cases ho
  · cases ho
theorem o_mod : OpR X (binaryOp .Mod) (rI (fun _ j => 0 < j) fun i j => .int (i % j)) := op_mod
theorem l_mod : L2r K (rI (fun _ j => 0 < j) fun i j => .int (i % j)) modD := fun S H x y d e n z Q dm tx ty ho k => by
  unfold modD at ho
  split at ho
  · cases tx; cases ty
    split at ho
    · rename_i hz
      exact ⟨_, _, rfl, rfl, hz, fin1 ho (.int _) k⟩
    · cases ho
  · cases ho
theorem o_pow : OpR X (binaryOp .Pow) (rI CPow fun i j => .int (i ^ j.toNat)) := op_pow
theorem l_pow : L2r K (rI CPow fun i j => .int (i ^ j.toNat)) powD := fun S H x y d e n z Q dm tx ty ho k => by
  unfold powD at ho
  split at ho
  · cases tx; cases ty
    split at ho
    · rename_i hz
      exact ⟨_, _, rfl, rfl, hz, fin1 ho (.int _) k⟩
    · cases ho
  · cases ho
def negD : D → Option (Bool × D)
  | .int i => some (false, .int (-i))
  | _ => none
theorem o_neg : UnR X (unaryOp .USub) (rU fun i => .int (-i)) := un_neg
theorem l_neg : L1r K (rU fun i => .int (-i)) negD := fun S H x d n z Q dm tx ho k => by
  unfold negD at ho
  split at ho
  · cases tx
    exact ⟨_, rfl, fin1 ho (.int _) k⟩
  · cases ho

def strLt (x y : Str) : Bool := decide (x.cps.toList < y.cps.toList)
def ltD : D → D → Option (Bool × D)
  | .int i, .int j => some (false, .bl (decide (i < j)))
  | .str x, .str y => some (false, .bl (strLt x y))
  | _, _ => none
def leD : D → D → Option (Bool × D)
  | .int i, .int j => some (false, .bl (decide (i ≤ j)))
  | .str x, .str y => some (false, .bl (!strLt y x))
  | _, _ => none
def gtD : D → D → Option (Bool × D)
  | .int i, .int j => some (false, .bl (decide (j < i)))
  | .str x, .str y => some (false, .bl (strLt y x))
  | _, _ => none
def geD : D → D → Option (Bool × D)
  | .int i, .int j => some (false, .bl (decide (j ≤ i)))
  | .str x, .str y => some (false, .bl (!strLt x y))
  | _, _ => none
abbrev rLtA : R2 := fun x y H Q => rI0 (fun i j => .bl (decide (i < j))) x y H Q ∨ (∃ i j, x = .str i ∧ y = .str j ∧ Q (.bl (decide (i.cps.toList < j.cps.toList))) H)
abbrev rLeA : R2 := fun x y H Q => rI0 (fun i j => .bl (decide (i ≤ j))) x y H Q ∨ (∃ i j, x = .str i ∧ y = .str j ∧ Q (.bl (!decide (j.cps.toList < i.cps.toList))) H)
abbrev rGtA : R2 := fun x y H Q => rI0 (fun i j => .bl (decide (j < i))) x y H Q ∨ (∃ i j, x = .str i ∧ y = .str j ∧ Q (.bl (decide (j.cps.toList < i.cps.toList))) H)
abbrev rGeA : R2 := fun x y H Q => rI0 (fun i j => .bl (decide (j ≤ i))) x y H Q ∨ (∃ i j, x = .str i ∧ y = .str j ∧ Q (.bl (!decide (i.cps.toList < j.cps.toList))) H)
theorem o_lt : OpR X (compareOp .Lt) rLtA := op_lt.or op_lt_str
theorem o_le : OpR X (compareOp .LtE) rLeA := op_le.or op_le_str
theorem o_gt : OpR X (compareOp .Gt) rGtA := op_gt.or op_gt_str
theorem o_ge : OpR X (compareOp .GtE) rGeA := op_ge.or op_ge_str
theorem l_lt : L2r K rLtA ltD := fun S H x y d e n z Q dm tx ty ho k => by
  unfold ltD at ho
  split at ho
  · cases tx; cases ty
    exact .inl ⟨_, _, rfl, rfl, fin1 ho (.bl _) k⟩
  · cases tx; cases ty
    exact .inr ⟨_, _, rfl, rfl, fin1 ho (.bl _) k⟩
  · cases ho
theorem l_le : L2r K rLeA leD := fun S H x y d e n z Q dm tx ty ho k => by
  unfold leD at ho
  split at ho
  · cases tx; cases ty
    exact .inl ⟨_, _, rfl, rfl, fin1 ho (.bl _) k⟩
  · cases tx; cases ty
    exact .inr ⟨_, _, rfl, rfl, fin1 ho (.bl _) k⟩
  · cases ho
theorem l_gt : L2r K rGtA gtD := fun S H x y d e n z Q dm tx ty ho k => by
  unfold gtD at ho
  split at ho
  · cases tx; cases ty
    exact .inl ⟨_, _, rfl, rfl, fin1 ho (.bl _) k⟩
  · cases tx; cases ty
    exact .inr ⟨_, _, rfl, rfl, fin1 ho (.bl _) k⟩
  · cases ho
theorem l_ge : L2r K rGeA geD := fun S H x y d e n z Q dm tx ty ho k => by
  unfold geD at ho
  split at ho
  · cases tx; cases ty
    exact .inl ⟨_, _, rfl, rfl, fin1 ho (.bl _) k⟩
  · cases tx; cases ty
    exact .inr ⟨_, _, rfl, rfl, fin1 ho (.bl _) k⟩
  · cases ho

mutual
def py : D → Option PyData
  | .non => some .none
  | .bl b => some (.bool b)
  | .int i => some (.int i)
  | .str s => some (.str s)
  | .lst xs => match pyL xs with
    | some ps => some (.list ps)
    | none => none
  | .tup xs => match pyL xs with
    | some ps => some (.tuple ps)
    | none => none
  | .ro ns => some (.list (ns.map .int))
  | .ob _ => none
  | .exc _ => none
  | .cls _ => none
  | .dic _ => none
  | .dit _ => none
def pyL : List D → Option (List PyData)
  | [] => some []
  | d :: ds => match py d, pyL ds with
    | some p, some ps => some (p :: ps)
    | _, _ => none
end
theorem dpInts {K : PySem.W.Frag} {H : Hp} : ∀ ns : List Int, DpAll K H (ns.map V.int) (ns.map PyData.int)
  | [] => .nil
  | n :: ns => .cons (.int n) (dpInts ns)
mutual
theorem dp_of {S : Addr → Prop} {H : Hp} : ∀ (d : D) (v : V) (p : PyData), Tr K S H v d → py d = some p → Dp K H v p
  | .non, _, _, h, e => by cases h; cases e; exact .non
  | .bl _, _, _, h, e => by cases h; cases e; exact .bl _
  | .int _, _, _, h, e => by cases h; cases e; exact .int _
  | .str _, _, _, h, e => by cases h; cases e; exact .str _
  | .ob _, _, _, h, e => by cases e
  | .exc _, _, _, h, e => by cases e
  | .cls _, _, _, h, e => by cases e
  | .dic _, _, _, h, e => by cases e
  | .dit _, _, _, h, e => by cases e
  | .lst ds, _, _, h, e => by
    cases h with
    | lst h n t =>
      unfold py at e
      split at e
      · rename_i ps hp
        cases e
        exact .lst (SqL.of h) (dp_ofL ds _ _ t hp)
      · cases e
  | .tup ds, _, _, h, e => by
    cases h with
    | tup h n t =>
      unfold py at e
      split at e
      · rename_i ps hp
        cases e
        exact .tup (SqT.of h) (dp_ofL ds _ _ t hp)
      · cases e
    | tupK h t =>
      unfold py at e
      split at e
      · rename_i ps hp
        cases e
        exact .tup (h H) (dp_ofL ds _ _ t hp)
      · cases e
  | .ro ns, _, _, h, e => by
    cases h with
    | ro h n =>
      cases e
      exact .lst (.inl (.inr ⟨_, h⟩)) (dpInts ns)
    | roK h =>
      cases e
      exact .lst (h H) (dpInts ns)
theorem dp_ofL {S : Addr → Prop} {H : Hp} : ∀ (ds : List D) (vs : List V) (ps : List PyData), TrL K S H vs ds → pyL ds = some ps → DpAll K H vs ps
  | [], _, _, h, e => by cases h; cases e; exact .nil
  | d :: ds, _, _, h, e => by
    cases h with
    | cons h t =>
      unfold pyL at e
      split at e
      · rename_i p ps h1 h2
        cases e
        exact .cons (dp_of d _ _ h h1) (dp_ofL ds _ _ t h2)
      · cases e
end
def eqB (d e : D) : Option Bool := match py d, py e with
  | some p, some q => if SeqAt.shaped p = true ∧ SeqAt.shaped q = true then some (PyData.eqv p q) else none
  | _, _ => none
def eqD (d e : D) : Option (Bool × D) := match eqB d e with
  | some b => some (false, .bl b)
  | none => none
def neD (d e : D) : Option (Bool × D) := match eqB d e with
  | some b => some (false, .bl (!b))
  | none => none
theorem eqB_of {S : Addr → Prop} {H : Hp} {x y : V} {d e : D} {b : Bool} (tx : Tr K S H x d) (ty : Tr K S H y e) (h : eqB d e = some b) : ∃ p q, Dp K H x p ∧ Dp K H y q ∧ SeqAt.shaped p = true ∧ SeqAt.shaped q = true ∧ PyData.eqv p q = b := by
  unfold eqB at h
  split at h
  · rename_i p q h1 h2
    split at h
    · rename_i hz
      cases h
      exact ⟨p, q, dp_of _ _ _ tx h1, dp_of _ _ _ ty h2, hz.1, hz.2, rfl⟩
    · cases h
  · cases h
theorem l_eq : L2r K (rEqD K) eqD := fun S H x y d e n z Q dm tx ty ho k => by
  unfold eqD at ho
  split at ho
  · rename_i b hb
    obtain ⟨p, q, h1, h2, h3, h4, h5⟩ := eqB_of tx ty hb
    refine ⟨p, q, h1, h2, h3, h4, ?_⟩
    rw [h5]
    exact fin1 ho (.bl _) k
  · cases ho
theorem l_ne : L2r K (rNeD K) neD := fun S H x y d e n z Q dm tx ty ho k => by
  unfold neD at ho
  split at ho
  · rename_i b hb
    obtain ⟨p, q, h1, h2, h3, h4, h5⟩ := eqB_of tx ty hb
    refine ⟨p, q, h1, h2, h3, h4, ?_⟩
    rw [h5]
    exact fin1 ho (.bl _) k
  · cases ho
def isD : D → D → Option (Bool × D)
  | .ob (.ty a), .ob (.ty b) => some (false, .bl (decide (a = b)))
  | .bl a, .bl b => some (false, .bl (decide (a = b)))
  | .non, .non => some (false, .bl true)
  | .bl _, .non => some (false, .bl false)
  | .int _, .non => some (false, .bl false)
  | .str _, .non => some (false, .bl false)
  | .lst _, .non => some (false, .bl false)
  | .tup _, .non => some (false, .bl false)
  | .dic _, .non => some (false, .bl false)
  | .exc _, .non => some (false, .bl false)
  | _, _ => none
def isntD : D → D → Option (Bool × D) := fun d e => match isD d e with
  | some (n, .bl b) => some (n, .bl (!b))
  | _ => none
abbrev rIsA : R2 := fun x y H Q => ((∃ a b, x = .ty a ∧ y = .ty b ∧ Q (.bl (decide (a = b))) H) ∨ rIsB x y H Q) ∨ (y = .non ∧ Q (.bl (decide (x = .non))) H)
abbrev rIsntA : R2 := fun x y H Q => (rNT x y H Q ∨ rNotB x y H Q) ∨ (y = .non ∧ Q (.bl (!decide (x = .non))) H)
theorem o_is : OpR X (compareOp .Is) rIsA := (op_isTyB.or op_isBl).or op_isN
theorem o_isnt : OpR X (compareOp .IsNot) rIsntA := (op_notTyB.or op_notBl).or op_notN
theorem l_is : L2r K rIsA isD := fun S H x y d e n z Q dm tx ty ho k => by
  unfold isD at ho
  split at ho
  · cases tx; cases ty
    exact .inl (.inl ⟨_, _, rfl, rfl, fin1 ho (.bl _) k⟩)
  · cases tx; cases ty
    exact .inl (.inr ⟨_, _, rfl, rfl, fin1 ho (.bl _) k⟩)
  · cases tx; cases ty
    exact .inr ⟨rfl, fin1 ho (.bl _) k⟩
  · cases tx; cases ty
    exact .inr ⟨rfl, fin1 ho (.bl _) k⟩
  · cases tx; cases ty
    exact .inr ⟨rfl, fin1 ho (.bl _) k⟩
  · cases tx; cases ty
    exact .inr ⟨rfl, fin1 ho (.bl _) k⟩
  · cases ty; cases tx
    exact .inr ⟨rfl, fin1 ho (.bl _) k⟩
  · cases ty; cases tx
    · exact .inr ⟨rfl, fin1 ho (.bl _) k⟩
    · exact .inr ⟨rfl, fin1 ho (.bl _) k⟩
  · cases ty; cases tx
    exact .inr ⟨rfl, fin1 ho (.bl _) k⟩
  · cases ty; cases tx
    exact .inr ⟨rfl, fin1 ho (.bl _) k⟩
  · cases ho
theorem l_isnt : L2r K rIsntA isntD := fun S H x y d e n z Q dm tx ty ho k => by
  unfold isntD at ho
  split at ho
  · rename_i n' b hb
    unfold isD at hb
    split at hb
    · cases tx; cases ty; cases hb
      exact .inl (.inl ⟨_, _, rfl, rfl, fin1 ho (.bl _) k⟩)
    · cases tx; cases ty; cases hb
      exact .inl (.inr ⟨_, _, rfl, rfl, fin1 ho (.bl _) k⟩)
    · cases tx; cases ty; cases hb
      exact .inr ⟨rfl, fin1 ho (.bl _) k⟩
    · cases tx; cases ty; cases hb
      exact .inr ⟨rfl, fin1 ho (.bl _) k⟩
    · cases tx; cases ty; cases hb
      exact .inr ⟨rfl, fin1 ho (.bl _) k⟩
    · cases tx; cases ty; cases hb
      exact .inr ⟨rfl, fin1 ho (.bl _) k⟩
    · cases ty; cases tx; cases hb
      exact .inr ⟨rfl, fin1 ho (.bl _) k⟩
    · cases ty; cases hb; cases tx
      · exact .inr ⟨rfl, fin1 ho (.bl _) k⟩
      · exact .inr ⟨rfl, fin1 ho (.bl _) k⟩
    · cases ty; cases tx; cases hb
      exact .inr ⟨rfl, fin1 ho (.bl _) k⟩
    · cases ty; cases tx; cases hb
      exact .inr ⟨rfl, fin1 ho (.bl _) k⟩
    · cases hb
  · cases ho

def flD : D → Option V
  | .non => some .non
  | .bl b => some (.bl b)
  | .int i => some (.int i)
  | .str s => some (.str s)
  | _ => none
def flL : List D → Option (List V)
  | [] => some []
  | d :: ds => match flD d, flL ds with
    | some v, some vs => some (v :: vs)
    | _, _ => none
theorem fl_of {S : Addr → Prop} {H : Hp} {v w : V} {d : D} (t : Tr K S H v d) (h : flD d = some w) : v = w ∧ flatV v = true := by
  cases d <;> first | (cases t; cases h; exact ⟨rfl, rfl⟩) | cases h
theorem flL_of {S : Addr → Prop} {H : Hp} : ∀ {vs ws : List V} {ds : List D}, TrL K S H vs ds → flL ds = some ws → vs = ws ∧ vs.all flatV = true
  | _, _, [], t, h => by cases t; cases h; exact ⟨rfl, rfl⟩
  | _, _, d :: ds, t, h => by
    cases t with
    | cons t1 t2 =>
      unfold flL at h
      split at h
      · rename_i v vs h1 h2
        cases h
        obtain ⟨e1, q1⟩ := fl_of t1 h1
        obtain ⟨e2, q2⟩ := flL_of t2 h2
        exact ⟨by rw [e1, e2], by rw [List.all_cons, q1, q2]; rfl⟩
      · cases h
def inStr (x y : Str) : Bool := !(Builtin.Str.occurrences y x 0 y.length 1).isEmpty
def inB : D → D → Option Bool
  | .str x, .str y => some (inStr x y)
  | d, .lst ds => match flD d, flL ds with
    | some v, some vs => some (inV v vs)
    | _, _ => none
  | d, .tup ds => match flD d, flL ds with
    | some v, some vs => some (inV v vs)
    | _, _ => none
  | _, _ => none
def ninD (d e : D) : Option (Bool × D) := match inB d e with
  | some b => some (false, .bl (!b))
  | none => none
abbrev rNinA (K : PySem.W.Frag) : R2 := fun x y H Q => (∃ i j, x = .str i ∧ y = .str j ∧ Q (.bl (!(!(Builtin.Str.occurrences j i 0 j.length 1).isEmpty))) H) ∨ rIn K true x y H Q
theorem o_nin : OpR X (compareOp .NotIn) (rNinA X.K) := op_notin_str.or op_notIn_seq
theorem inB_of {S : Addr → Prop} {H : Hp} {x y : V} {d e : D} {b : Bool} (tx : Tr K S H x d) (ty : Tr K S H y e) (h : inB d e = some b) :
    (∃ i j, x = .str i ∧ y = .str j ∧ b = !(Builtin.Str.occurrences j i 0 j.length 1).isEmpty) ∨ ∃ p xs, y = .ref p ∧ (SqL K H p xs ∨ SqT K H p xs) ∧ flatV x = true ∧ xs.all flatV = true ∧ inV x xs = b := by
  unfold inB at h
  split at h
  · cases tx; cases ty; cases h
    exact .inl ⟨_, _, rfl, rfl, rfl⟩
  · split at h
    · rename_i h1 h2
      cases h
      cases ty with
      | lst h3 n3 t3 =>
        obtain ⟨e1, q1⟩ := fl_of tx h1
        obtain ⟨e2, q2⟩ := flL_of t3 h2
        subst e1 e2
        exact .inr ⟨_, _, rfl, .inl (SqL.of h3), q1, q2, rfl⟩
    · cases h
  · split at h
    · rename_i h1 h2
      cases h
      obtain ⟨e1, q1⟩ := fl_of tx h1
      subst e1
      cases ty with
      | tup h3 n3 t3 =>
        obtain ⟨e2, q2⟩ := flL_of t3 h2
        subst e2
        exact .inr ⟨_, _, rfl, .inr (SqT.of h3), q1, q2, rfl⟩
      | tupK h3 t3 =>
        obtain ⟨e2, q2⟩ := flL_of t3 h2
        subst e2
        exact .inr ⟨_, _, rfl, .inr (h3 H), q1, q2, rfl⟩
    · cases h
  · cases h
theorem l_nin : L2r K (rNinA K) ninD := fun S H x y d e n z Q dm tx ty ho k => by
  unfold ninD at ho
  split at ho
  · rename_i b hb
    rcases inB_of tx ty hb with ⟨i, j, h1, h2, h3⟩ | ⟨p, xs, h1, h2, h3, h4, h5⟩
    · subst h3
      exact .inl ⟨i, j, h1, h2, fin1 ho (.bl _) k⟩
    · subst h5
      exact .inr ⟨p, xs, h1, h2, h3, h4, fin1 ho (.bl _) k⟩
  · cases ho

def ixD : D → D → Option (Bool × D)
  | .lst ds, .int i => match atI ds i with
    | some d => some (false, d)
    | none => none
  | .tup ds, .int i => match atI ds i with
    | some d => some (false, d)
    | none => none
  | .ro ns, .int i => match atI ns i with
    | some d => some (false, .int d)
    | none => none
  | .str s, .int i => if s.length ≤ sizeLine then match atI s.cps.toList i with
    | some c => some (false, .str ⟨#[c]⟩)
    | none => none
    else none
  | _, _ => none
theorem atI_tr {S : Addr → Prop} {H : Hp} {vs : List V} {ds : List D} {i : Int} {d : D} (t : TrL K S H vs ds) (h : atI ds i = some d) : ∃ v, atI vs i = some v ∧ Tr K S H v d := by
  unfold atI at h ⊢
  rw [t.length]
  cases e : ixN ds.length i with
  | none => rw [e] at h; cases h
  | some j => rw [e] at h; exact t.get h
theorem atI_map {α β : Type} {f : α → β} {xs : List α} {i : Int} {d : α} (h : atI xs i = some d) : atI (xs.map f) i = some (f d) := by
  unfold atI at h ⊢
  rw [List.length_map]
  cases e : ixN xs.length i with
  | none => rw [e] at h; cases h
  | some j =>
    rw [e] at h
    show (xs.map f)[j]? = some (f d)
    rw [List.getElem?_map, show xs[j]? = some d from h]
    rfl
theorem l_ix : L2r K (rIx K) ixD := fun S H x y d e n z Q dm tx ty ho k => by
  unfold ixD at ho
  split at ho
  · cases ty
    cases tx with
    | lst h1 n1 t1 =>
      split at ho
      · rename_i hz
        obtain ⟨v, e1, t2⟩ := atI_tr t1 hz
        exact .inl ⟨_, _, _, v, rfl, rfl, SqL.of h1, e1, fin1 ho t2 k⟩
      · cases ho
  · cases ty
    split at ho
    · rename_i hz
      cases tx with
      | tup h1 n1 t1 =>
        obtain ⟨v, e1, t2⟩ := atI_tr t1 hz
        exact .inr (.inl ⟨_, _, _, v, rfl, rfl, SqT.of h1, e1, fin1 ho t2 k⟩)
      | tupK h1 t1 =>
        obtain ⟨v, e1, t2⟩ := atI_tr t1 hz
        exact .inr (.inl ⟨_, _, _, v, rfl, rfl, h1 H, e1, fin1 ho t2 k⟩)
    · cases ho
  · cases ty
    split at ho
    · rename_i hz
      cases tx with
      | ro h1 n1 => exact .inl ⟨_, _, _, _, rfl, rfl, .inl (.inr ⟨_, h1⟩), atI_map hz, fin1 ho (.int _) k⟩
      | roK h1 => exact .inl ⟨_, _, _, _, rfl, rfl, h1 H, atI_map hz, fin1 ho (.int _) k⟩
    · cases ho
  · cases ty; cases tx
    split at ho
    · rename_i hl
      split at ho
      · rename_i hz
        exact .inr (.inr ⟨_, _, _, rfl, rfl, hl, hz, fin1 ho (.str _) k⟩)
      · cases ho
    · cases ho
  · cases ho
def cutL {α : Type} (xs : List α) (lo hi : Option Int) : List α := (xs.drop (HT.sIx xs.length 0 lo)).take (HT.sIx xs.length xs.length hi - HT.sIx xs.length 0 lo)
def slD : D → Option Int → Option Int → Option (Bool × D)
  | .lst ds, lo, hi => some (true, .lst (cutL ds lo hi))
  | .str s, lo, hi => if s.length ≤ sizeLine then some (false, .str (cutS s lo hi)) else none
  | _, _, _ => none
abbrev rSlA (K : PySem.W.Frag) : V → Option Int → Option Int → Hp → VK → Prop := fun x lo hi H Q => rSlL K x lo hi H Q ∨ rSlS x lo hi H Q
theorem o_sl : SlR X (rSlA X.K) := sl_list.or sl_str
def LS (K : PySem.W.Frag) (r : V → Option Int → Option Int → Hp → VK → Prop) (o : D → Option Int → Option Int → Option (Bool × D)) : Prop :=
  ∀ (S : Addr → Prop) (H : Hp) (x : V) (d : D) (lo hi : Option Int) (n : Bool) (z : D) (Q : VK), Dom S H → Tr K S H x d → o d lo hi = some (n, z) → (∀ v H', Same H H' → Val K S H H' n v z → Q v H') → r x lo hi H Q
theorem l_sl : LS K (rSlA K) slD := fun S H x d lo hi n z Q dm tx ho k => by
  unfold slD at ho
  split at ho
  · cases tx with
    | lst h1 n1 t1 =>
      refine .inl ⟨_, _, rfl, SqL.of h1, ?_⟩
      refine finL dm ho ?_ k
      unfold cutV cutL
      rw [t1.length]
      exact (t1.drop _).take _
  · cases tx
    split at ho
    · rename_i hz
      exact .inr ⟨_, rfl, hz, fin1 ho (.str _) k⟩
    · cases ho
  · cases ho
end
def oThen (f : Option MF) (k : Option Int → MF) : MF := match f with
  | none => k none
  | some f => andThen f fun _ d => match d with
    | .int i => k (some i)
    | _ => mFail
def mSl (o : D → Option Int → Option Int → Option (Bool × D)) (f : MF) (lo hi : Option MF) : MF := andThen f fun _ d => oThen lo fun l => oThen hi fun u g => match o d l u with
  | some (n, z) => some (.ok n z g)
  | none => none
section
variable {X : Cx} {C : Cxt} {E : XK} {m : Bool} {pos p2 : Pos} {e : Expr} {f : MF} {σ : L2.St} {H : Hp} {Q : VK} {lo hi : Option Expr} {fl fh : Option MF}
def tPO (C : Cxt) (E : XK) (m : Bool) : Option MF → TO
  | none => tNoPart
  | some f => tPart (tv C E m f)
theorem ro_then {S : AS} {g : G} {k : Option Int → MF} {R : Option Int → Hp → Prop} (rp : Rep C S g σ H) (h : ReP C E m S σ H Q (oThen fl k g))
    (hk : ∀ g o H1, Rep C S g σ H1 → Mov m S H H1 → ReP C E m S σ H1 Q (k o g) → R o H1) : tPO C E m fl σ H R := by
  cases fl with
  | none => exact hk g none H rp (.of (Same.refl H)) h
  | some f =>
    refine ⟨S, g, rp, ?_⟩
    unfold oThen andThen at h
    cases e : f g with
    | none => simp only [e] at h; exact h
    | some z =>
      simp only [e] at h
      cases z with
      | ex c g' => exact h
      | ok n d g' =>
        intro v H1 r1 m1 v1 _
        cases d with
        | int i =>
          cases v1.1
          exact ⟨i, rfl, hk g' (some i) H1 r1 m1 (ReP.later h m1 r1.dom)⟩
        | _ => exact h.elim
theorem tv_sl {r : V → Option Int → Option Int → Hp → VK → Prop} {o : D → Option Int → Option Int → Option (Bool × D)} (l : LS C.K r o) (h : tv C E m (mSl o f fl fh) σ H Q) : tSl r (tv C E m f) (tPO C E m fl) (tPO C E m fh) σ H Q := by
  refine tv_then h fun S g n d v H1 rp mv vl q => ?_
  refine ro_then rp (q.later mv rp.dom) fun g2 lo H2 rp2 mv2 q2 => ?_
  refine ro_then rp2 q2 fun g3 hi H3 rp3 mv3 q3 => ?_
  cases e : o d lo hi with
  | none => simp only [e] at q3; exact q3.elim
  | some z =>
    obtain ⟨n2, z⟩ := z
    simp only [e] at q3
    exact l S H3 v d lo hi n2 z Q rp3.dom (Tr.stp (mv2.trans mv3).stp d v vl.1) e fun v' H' sm vl' => q3.done rp3 sm vl'
theorem e_sl {r : V → Option Int → Option Int → Hp → VK → Prop} {o : D → Option Int → Option Int → Option (Bool × D)} (hr : SlR X r) (l : LS C.K r o) (he : PE X e (tv C E m f)) (hl : PO X lo (tPO C E m fl)) (hh : PO X hi (tPO C E m fh)) :
    PE X (.Subscript e (.Slice lo hi none p2) pos) (tv C E m (mSl o f fl fh)) := PE.imp (pe_slice hr he hl hh) fun _ _ _ => tv_sl l
theorem p_none : PO X none (tPO C E m none) := po_none
theorem p_some (he : PE X e (tv C E m f)) : PO X (some e) (tPO C E m (some f)) := po_some he
end
end TL
set_option Elab.async false
set_option linter.all false
set_option maxRecDepth 100000
set_option maxHeartbeats 4000000
namespace TL
open PySem PySem.Spec PyProof.Rows L2

section
variable {K : PySem.W.Frag} {X : Cx}
theorem trl1 {S : Addr → Prop} {H : Hp} {xs : List V} {d : D} (t : TrL K S H xs [d]) : ∃ v, xs = [v] ∧ Tr K S H v d := by
  cases t with
  | cons h t => cases t; exact ⟨_, rfl, h⟩
theorem trl2 {S : Addr → Prop} {H : Hp} {xs : List V} {d e : D} (t : TrL K S H xs [d, e]) : ∃ v w, xs = [v, w] ∧ Tr K S H v d ∧ Tr K S H w e := by
  cases t with
  | cons h t => obtain ⟨w, rfl, q⟩ := trl1 t; exact ⟨_, w, rfl, h, q⟩
/-- a tuple that may be read -/
theorem tup_sq {S : Addr → Prop} {H : Hp} {v : V} {ds : List D} (t : Tr K S H v (.tup ds)) : ∃ a xs, v = .ref a ∧ SqT K H a xs ∧ TrL K S H xs ds := by
  cases t with
  | tup h n t => exact ⟨_, _, rfl, SqT.of h, t⟩
  | tupK h t => exact ⟨_, _, rfl, h H, t⟩
theorem lst_sq {S : Addr → Prop} {H : Hp} {v : V} {ds : List D} (t : Tr K S H v (.lst ds)) : ∃ a xs, v = .ref a ∧ H a = some (.lst xs) ∧ TrL K S H xs ds := by
  cases t with
  | lst h n t => exact ⟨_, _, rfl, h, t⟩
theorem ro_sq {S : Addr → Prop} {H : Hp} {v : V} {ns : List Int} (t : Tr K S H v (.ro ns)) : ∃ a, v = .ref a ∧ SqL K H a (ns.map V.int) := by
  cases t with
  | ro h n => exact ⟨_, rfl, .inl (.inr ⟨_, h⟩)⟩
  | roK h => exact ⟨_, rfl, h H⟩

def lenD : List D → Option (Bool × D)
  | [.str s] => if s.length ≤ sizeLine then some (false, .int s.length) else none
  | [.lst ds] => some (false, .int ds.length)
  | [.tup ds] => some (false, .int ds.length)
  | [.ro ds] => some (false, .int ds.length)
  | [.dic ds] => some (false, .int ds.length)
  | _ => none
abbrev rLenA (K : PySem.W.Frag) : List V → Hp → VK → Prop := fun xs H Q => (∃ x n, xs = [x] ∧ LenV K x H n ∧ Q (.int n) H) ∨ (∃ a kvs, xs = [V.ref a] ∧ H a = some (.dK kvs) ∧ Q (.int kvs.length) H)
theorem c_len : CallR X (.builtin "len") (rLenA X.K) := call_len.or call_lenD
theorem TrE.length {S : Addr → Prop} {H : Hp} : ∀ {vs : List (Key × V)} {ds : List (Key × D)}, TrE K S H vs ds → vs.length = ds.length
  | _, _, .nil => rfl
  | _, _, .cons _ t => congrArg Nat.succ t.length
theorem l_len : LC K (rLenA K) lenD := fun S H xs ds n z Q dm t ho k => by
  unfold lenD at ho
  split at ho
  · obtain ⟨v, rfl, h⟩ := trl1 t
    cases h
    split at ho
    · rename_i hz
      exact .inl ⟨_, _, rfl, ⟨hz, rfl⟩, fin1 ho (.int _) k⟩
    · cases ho
  · obtain ⟨v, rfl, h⟩ := trl1 t
    obtain ⟨a, xs, rfl, h1, h2⟩ := lst_sq h
    exact .inl ⟨_, _, rfl, .inl ⟨xs, SqL.of h1, rfl⟩, by rw [h2.length]; exact fin1 ho (.int _) k⟩
  · obtain ⟨v, rfl, h⟩ := trl1 t
    obtain ⟨a, xs, rfl, h1, h2⟩ := tup_sq h
    exact .inl ⟨_, _, rfl, .inr ⟨xs, h1, rfl⟩, by rw [h2.length]; exact fin1 ho (.int _) k⟩
  · obtain ⟨v, rfl, h⟩ := trl1 t
    obtain ⟨a, rfl, h1⟩ := ro_sq h
    exact .inl ⟨_, _, rfl, .inl ⟨_, h1, rfl⟩, by rw [List.length_map]; exact fin1 ho (.int _) k⟩
  · obtain ⟨v, rfl, h⟩ := trl1 t
    cases h with
    | dic h n t => exact .inr ⟨_, _, rfl, h, by rw [t.length]; exact fin1 ho (.int _) k⟩
  · cases ho

def tyN : D → Option String
  | .non => some "NoneType"
  | .bl _ => some "bool"
  | .int _ => some "int"
  | .str _ => some "str"
  | .lst _ => some "list"
  | .tup _ => some "tuple"
  | .dic _ => some "dict"
  | .ro _ => some "list"
  | .ob _ => none
  | .exc _ => none
  | .cls _ => none
  | .dit _ => none
theorem tyX_of {S : Addr → Prop} {H : Hp} {v : V} {d : D} {T : String} (t : Tr K S H v d) (h : tyN d = some T) : TyX K H v (.type T) := by
  cases d with
  | non => cases t; cases h; exact .base .non
  | bl _ => cases t; cases h; exact .base (.bl _)
  | int _ => cases t; cases h; exact .base (.int _)
  | str _ => cases t; cases h; exact .base (.str _)
  | lst _ => cases h; cases t with | lst h n t => exact .base (.lst h)
  | tup _ =>
    cases h
    cases t with
    | tup h n t => exact .base (.tup h)
    | tupK h t =>
      rcases h (fun _ => none) with (h | ⟨_, h⟩) | ⟨o, its, n, h1, h2, _⟩
      · cases h
      · cases h
      · exact .kTuple h1 h2
  | dic _ => cases h; cases t with | dic h n t => exact .base (.dK h)
  | ro _ =>
    cases h
    cases t with
    | ro h n => exact .base (.frz h)
    | roK h =>
      rcases h (fun _ => none) with (h | ⟨_, h⟩) | ⟨o, its, n, h1, h2, _⟩
      · cases h
      · cases h
      · exact .kList h1 h2
  | ob _ => cases h
  | exc _ => cases h
  | cls _ => cases h
  | dit _ => cases h
def isiD : List D → Option (Bool × D)
  | [d, .ob (.ty T)] => match tyN d with
    | some t => match kitB t T with
      | some b => some (false, .bl b)
      | none => none
    | none => none
  | _ => none
theorem c_isi : CallR X (.builtin "isinstance") (rIsi X.K) := call_isi
theorem l_isi : LC K (rIsi K) isiD := fun S H xs ds n z Q dm t ho k => by
  unfold isiD at ho
  split at ho
  · split at ho
    · rename_i t1 ht
      split at ho
      · rename_i b hb
        obtain ⟨v, w, rfl, h1, h2⟩ := trl2 t
        cases h2
        exact ⟨_, _, _, _, b, rfl, .ty _, tyX_of h1 ht, kit_ty hb, fin1 ho (.bl _) k⟩
      · cases ho
    · cases ho
  · cases ho
def typD : List D → Option (Bool × D)
  | [d] => match tyN d with
    | some t => some (false, .ob (.ty t))
    | none => none
  | _ => none
theorem tyB_of {S : Addr → Prop} {H : Hp} {v : V} {d : D} {T : String} (t : Tr K S H v d) (h : tyN d = some T) : TyB K H v T := by
  cases d with
  | non => cases t; cases h; exact .non
  | bl _ => cases t; cases h; exact .bl _
  | int _ => cases t; cases h; exact .int _
  | str _ => cases t; cases h; exact .str _
  | lst _ => cases h; obtain ⟨a, xs, rfl, h1, h2⟩ := lst_sq t; exact .lst (SqL.of h1)
  | tup _ => cases h; obtain ⟨a, xs, rfl, h1, h2⟩ := tup_sq t; exact .tup h1
  | dic _ => cases h; cases t with | dic h n t => exact .dK h
  | ro _ => cases h; obtain ⟨a, rfl, h1⟩ := ro_sq t; exact .lst h1
  | ob _ => cases h
  | exc _ => cases h
  | cls _ => cases h
  | dit _ => cases h
theorem c_typ : CallR X (.type "type") (rTyp X.K) := call_type1
theorem l_typ : LC K (rTyp K) typD := fun S H xs ds n z Q dm t ho k => by
  unfold typD at ho
  split at ho
  · split at ho
    · rename_i t1 ht
      obtain ⟨v, rfl, h1⟩ := trl1 t
      exact ⟨_, _, rfl, tyB_of h1 ht, fin1 ho (.ob _) k⟩
    · cases ho
  · cases ho

def max2D : List D → Option (Bool × D)
  | [.int i, .int j] => some (false, .int (if j > i then j else i))
  | _ => none
def min2D : List D → Option (Bool × D)
  | [.int i, .int j] => some (false, .int (if j < i then j else i))
  | _ => none
abbrev rMax2 : List V → Hp → VK → Prop := fun xs H Q => ∃ i j, xs = [.int i, .int j] ∧ Q (.int (if j > i then j else i)) H
abbrev rMin2 : List V → Hp → VK → Prop := fun xs H Q => ∃ i j, xs = [.int i, .int j] ∧ Q (.int (if j < i then j else i)) H
theorem l_max2 : LC K rMax2 max2D := fun S H xs ds n z Q dm t ho k => by
  unfold max2D at ho
  split at ho
  · obtain ⟨v, w, rfl, h1, h2⟩ := trl2 t
    cases h1; cases h2
    exact ⟨_, _, rfl, fin1 ho (.int _) k⟩
  · cases ho
theorem l_min2 : LC K rMin2 min2D := fun S H xs ds n z Q dm t ho k => by
  unfold min2D at ho
  split at ho
  · obtain ⟨v, w, rfl, h1, h2⟩ := trl2 t
    cases h1; cases h2
    exact ⟨_, _, rfl, fin1 ho (.int _) k⟩
  · cases ho
def intD : List D → Option (Bool × D)
  | [.int i] => some (false, .int i)
  | [.bl b] => some (false, .int (if b then 1 else 0))
  | [.str s] => match PySem.intText? s with
    | some i => if s.length ≤ 640 then some (false, .int i) else none
    | none => none
  | _ => none
abbrev rIntA : List V → Hp → VK → Prop := fun xs H Q => ((∃ i, xs = [.int i] ∧ Q (.int i) H) ∨ ∃ k, xs = [.bl k] ∧ Q (.int (if k then 1 else 0)) H) ∨ ∃ a n, xs = [.str a] ∧ PySem.intText? a = some n ∧ a.length ≤ 640 ∧ Q (.int n) H
theorem c_int : CallR X (.type "int") rIntA := call_int1.or call_int_str
theorem l_int : LC K rIntA intD := fun S H xs ds n z Q dm t ho k => by
  unfold intD at ho
  split at ho
  · obtain ⟨v, rfl, h1⟩ := trl1 t
    cases h1
    exact .inl (.inl ⟨_, rfl, fin1 ho (.int _) k⟩)
  · obtain ⟨v, rfl, h1⟩ := trl1 t
    cases h1
    exact .inl (.inr ⟨_, rfl, fin1 ho (.int _) k⟩)
  · obtain ⟨v, rfl, h1⟩ := trl1 t
    cases h1
    split at ho
    · rename_i i hi
      split at ho
      · rename_i hz
        exact .inr ⟨_, _, rfl, hi, hz, fin1 ho (.int _) k⟩
      · cases ho
    · cases ho
  · cases ho
def blsD : List D → Option (List Bool)
  | [] => some []
  | .bl b :: ds => match blsD ds with
    | some bs => some (b :: bs)
    | none => none
  | _ => none
theorem bls_of : ∀ {ds : List D} {bs : List Bool}, blsD ds = some bs → ds = bs.map D.bl
  | [], _, h => by cases h; rfl
  | d :: ds, bs, h => by
    cases d with
    | bl b =>
      unfold blsD at h
      split at h
      · rename_i cs hc
        cases h
        rw [bls_of hc, List.map_cons]
      · cases h
    | _ => cases h
def strsD : List D → Option (List Str)
  | [] => some []
  | .str b :: ds => match strsD ds with
    | some bs => some (b :: bs)
    | none => none
  | _ => none
theorem strs_of : ∀ {ds : List D} {bs : List Str}, strsD ds = some bs → ds = bs.map D.str
  | [], _, h => by cases h; rfl
  | d :: ds, bs, h => by
    cases d with
    | str b =>
      unfold strsD at h
      split at h
      · rename_i cs hc
        cases h
        rw [strs_of hc, List.map_cons]
      · cases h
    | _ => cases h
def allD : List D → Option (Bool × D)
  | [.lst ds] => match blsD ds with
    | some bs => some (false, .bl (bs.all id))
    | none => none
  | _ => none
theorem l_all : LC K (rAll K) allD := fun S H xs ds n z Q dm t ho k => by
  unfold allD at ho
  split at ho
  · split at ho
    · rename_i bs hb
      obtain ⟨v, rfl, h1⟩ := trl1 t
      obtain ⟨a, xs, rfl, h2, h3⟩ := lst_sq h1
      have e := bls_of hb
      subst e
      have e := TrL.bools h3
      subst e
      exact ⟨_, bs, rfl, SqL.of h2, fin1 ho (.bl _) k⟩
    · cases ho
  · cases ho
def listD : List D → Option (Bool × D)
  | [.lst ds] => some (true, .lst ds)
  | [.tup ds] => some (true, .lst ds)
  | [.ro ns] => some (true, .lst (ns.map .int))
  | _ => none
abbrev rListA (K : PySem.W.Frag) : List V → Hp → VK → Prop := fun xs H Q => ∃ p ys, xs = [.ref p] ∧ (SqL K H p ys ∨ SqT K H p ys) ∧ ∀ l, H l = none → Q (.ref l) (upd H l (.lst ys))
theorem c_list : CallR X (.type "list") (rListA X.K) := call_list_of
theorem l_list : LC K (rListA K) listD := fun S H xs ds n z Q dm t ho k => by
  unfold listD at ho
  split at ho
  · obtain ⟨v, rfl, h⟩ := trl1 t
    obtain ⟨a, xs, rfl, h1, h2⟩ := lst_sq h
    exact ⟨_, _, rfl, .inl (SqL.of h1), finL dm ho h2 k⟩
  · obtain ⟨v, rfl, h⟩ := trl1 t
    obtain ⟨a, xs, rfl, h1, h2⟩ := tup_sq h
    exact ⟨_, _, rfl, .inr h1, finL dm ho h2 k⟩
  · obtain ⟨v, rfl, h⟩ := trl1 t
    obtain ⟨a, rfl, h1⟩ := ro_sq h
    exact ⟨_, _, rfl, .inl h1, finL dm ho (TrL.ofInts S H _) k⟩
  · cases ho
def joinD : D → List D → Option (Bool × D)
  | .str a, [.lst ds] => match strsD ds with
    | some ys => if (ys.map (·.length)).sum + ys.length * a.length ≤ 16777216 then some (false, .str (Txt.join a ys)) else none
    | none => none
  | _, _ => none
abbrev rJoin (K : PySem.W.Frag) : V → List V → Hp → VK → Prop := fun x xs H Q => ∃ a p, ∃ ys : List Str, x = .str a ∧ xs = [.ref p] ∧ (SqL K H p (ys.map V.str) ∨ SqT K H p (ys.map V.str)) ∧ (ys.map (·.length)).sum + ys.length * a.length ≤ 16777216 ∧ Q (.str (Txt.join a ys)) H
theorem l_join : LM K (rJoin K) joinD := fun S H x d xs ds n z Q dm t0 t ho k => by
  unfold joinD at ho
  split at ho
  · split at ho
    · rename_i ys hy
      split at ho
      · rename_i hz
        cases t0
        obtain ⟨v, rfl, h⟩ := trl1 t
        obtain ⟨a, xs, rfl, h1, h2⟩ := lst_sq h
        have e := strs_of hy
        subst e
        have e := TrL.strs h2
        subst e
        exact ⟨_, _, ys, rfl, rfl, .inl (SqL.of h1), hz, fin1 ho (.str _) k⟩
      · cases ho
    · cases ho
  · cases ho
def startsD : D → List D → Option (Bool × D)
  | .str a, [.str b] => some (false, .bl (Txt.startswith a b))
  | _, _ => none
end
end TL
set_option Elab.async false
set_option linter.all false
set_option maxRecDepth 100000
set_option maxHeartbeats 4000000
namespace TL
open PySem PySem.Spec PyProof.Rows L2

inductive Rt where
  | nx (g : G) | bk (g : G) | ct (g : G)
  | rt (n : Bool) (d : D) (g : G)
  | ex (c : Str) (g : G)
abbrev MS := G → Option Rt
def RtP (C : Cxt) (E : XK) (S : AS) (H : Hp) (Z : Ends) : Option Rt → Prop
  | none => False
  | some (.nx g') => ∀ σ' S' H', Rep C S' g' σ' H' → Stp S H S' H' → Z.nx σ' H'
  | some (.bk g') => ∀ σ' S' H', Rep C S' g' σ' H' → Stp S H S' H' → Z.bk σ' H'
  | some (.ct g') => ∀ σ' S' H', Rep C S' g' σ' H' → Stp S H S' H' → Z.ct σ' H'
  | some (.rt n d g') => ∀ v σ' S' H', Rep C S' g' σ' H' → Val C.K C.S0 C.H0 H' n v d → (n = true → ∀ p, v = .ref p → S' p) → Z.rt v H'
  | some (.ex c g') => ∀ cv σ' S' H', C.mg c = some cv → Rep C S' g' σ' H' → E cv none H'
def ts (C : Cxt) (E : XK) (F : MS) : TS := fun Z σ H => ∃ S g, Rep C S g σ H ∧ RtP C E S H Z (F g)
theorem RtP.later {C : Cxt} {E : XK} {S S1 : AS} {H H1 : Hp} {Z : Ends} {r : Option Rt} (h : RtP C E S H Z r) (k : Stp S H S1 H1) : RtP C E S1 H1 Z r := by
  cases r with
  | none => exact h
  | some z =>
    cases z with
    | nx g' => exact fun σ' S' H' a b => h σ' S' H' a (k.trans b)
    | bk g' => exact fun σ' S' H' a b => h σ' S' H' a (k.trans b)
    | ct g' => exact fun σ' S' H' a b => h σ' S' H' a (k.trans b)
    | rt n d g' => exact h
    | ex c g' => exact h
/-- an expression, then -/
def sThen (f : MF) (k : Bool → D → MS) : MS := fun g => match f g with
  | none => none
  | some (.ex c g') => some (.ex c g')
  | some (.ok n d g') => k n d g'
theorem rt_then {C : Cxt} {E : XK} {f : MF} {k : Bool → D → MS} {S : AS} {g : G} {σ : L2.St} {H : Hp} {Z : Ends} {R : VK} (h : RtP C E S H Z (sThen f k g))
    (hk : ∀ g n d v H1, Rep C S g σ H1 → Stp S H S H1 → Val C.K S H H1 n v d → (n = true → ∀ p, v = .ref p → Rep C (S.add p) g σ H1) → RtP C E S H Z (k n d g) → R v H1) : ReP C E true S σ H R (f g) := by
  unfold sThen at h
  cases e : f g with
  | none => rw [e] at h; exact h
  | some z =>
    rw [e] at h
    cases z with
    | ok n d g' => exact fun v H' a b c x => hk g' n d v H' a b.stp c x h
    | ex c g' => exact fun cv H' q r' => h cv σ S H' q r'
theorem s_then {C : Cxt} {E : XK} {f : MF} {k : Bool → D → MS} {σ : L2.St} {H : Hp} {Z : Ends} {R : VK} (h : ts C E (sThen f k) Z σ H)
    (hk : ∀ S g n d v H1, Rep C S g σ H1 → Stp S H S H1 → Val C.K S H H1 n v d → (n = true → ∀ p, v = .ref p → Rep C (S.add p) g σ H1) → (∃ g0, Rep C S g0 σ H) → RtP C E S H Z (k n d g) → R v H1) : tv C E true f σ H R := by
  obtain ⟨S, g, r, h⟩ := h
  refine ⟨S, g, r, ?_⟩
  unfold sThen at h
  cases e : f g with
  | none => rw [e] at h; exact h
  | some z =>
    rw [e] at h
    cases z with
    | ok n d g' => exact fun v H' a b c x => hk S g' n d v H' a b.stp c x ⟨g, r⟩ h
    | ex c g' => exact fun cv H' q r' => h cv σ S H' q r'
def sTest (f : MF) (k : Bool → MS) : MS := fun g => match f g with
  | none => none
  | some (.ex c g') => some (.ex c g')
  | some (.ok _ d g') => match truth d with
    | some b => k b g'
    | none => none
theorem s_test {C : Cxt} {E : XK} {f : MF} {k : Bool → MS} {σ : L2.St} {H : Hp} {Z : Ends} {R : Bool → Hp → Prop} (h : ts C E (sTest f k) Z σ H)
    (hk : ∀ S g b H1, Rep C S g σ H1 → Stp S H S H1 → RtP C E S H1 Z (k b g) → R b H1) : tb C E true f σ H R := by
  obtain ⟨S, g, r, h⟩ := h
  refine ⟨S, g, r, ?_⟩
  unfold sTest at h
  cases e : f g with
  | none => rw [e] at h; exact h
  | some z =>
    rw [e] at h
    cases z with
    | ex c g' => exact fun cv H' q r' => h cv σ S H' q r'
    | ok n d g' =>
      simp only at h
      cases et : truth d with
      | none => rw [et] at h; exact h.elim
      | some b =>
        rw [et] at h
        exact ⟨b, et, fun H' r1 m1 => hk S g' b H' r1 m1.stp (RtP.later h m1.stp)⟩

/-- may the slot be stored to -/
def free? (g : G) (i : Nat) : Bool := match g[i]? with
  | some (.io _) => false
  | none => false
  | _ => true
def putIm (i : Nat) (d : D) (g : G) : Option G := if free? g i = true then some (g.set i (.im d)) else none
section
variable {C : Cxt} {S : AS} {g g' : G} {σ : L2.St} {H : Hp}
theorem free_lt {i : Nat} (h : free? g i = true) : i < g.length := by
  unfold free? at h
  cases e : g[i]? with
  | none => rw [e] at h; cases h
  | some z => exact (List.getElem?_eq_some_iff.mp e).1
theorem free_io {i : Nat} (h : free? g i = true) (d : D) : g[i]? ≠ some (.io d) := fun e => by
  unfold free? at h
  rw [e] at h
  cases h
theorem set_ne {α : Type} {l : List α} {i j : Nat} {a : α} (h : i ≠ j) : (l.set i a)[j]? = l[j]? := List.getElem?_set_ne h
theorem set_eq {α : Type} {l : List α} {i : Nat} {a : α} (h : i < l.length) : (l.set i a)[i]? = some a := List.getElem?_set_self h
theorem Rep.put (r : Rep C S g σ H) {i : Nat} {v : V} {d : D} (hf : free? g i = true) (t : Tr C.K S H v d) : Rep C S (g.set i (.im d)) (σ.set i (some v)) H := by
  have hi := free_lt hf
  have hσ : i < σ.length := by rw [r.len]; exact hi
  have mono : ∀ (j : Nat) (z : SD), (∀ d, z ≠ .im d) → (g.set i (.im d))[j]? = some z → j ≠ i ∧ g[j]? = some z := fun j z hz e => by
    by_cases q : i = j
    · subst q
      rw [set_eq hi] at e
      exact absurd (Option.some.inj e).symm (hz d)
    · rw [set_ne q] at e
      exact ⟨fun z => q z.symm, e⟩
  refine ⟨by rw [List.length_set, List.length_set]; exact r.len, fun j e q => ?_, fun j e q => ?_, fun j e q => ?_, fun j a q => ?_, fun j l e e' a h1 h2 q1 q2 => ?_, r.dom, r.sub, r.s0, r.i0, r.fr⟩
  · by_cases z : i = j
    · subst z
      rw [set_eq hi] at q
      cases q
      exact ⟨v, set_eq hσ, t⟩
    · rw [set_ne z] at q
      obtain ⟨w, h1, h2⟩ := r.im j e q
      exact ⟨w, by rw [set_ne z]; exact h1, h2⟩
  · obtain ⟨z, q⟩ := mono j _ (fun _ z => by cases z) q
    obtain ⟨a, h1, h2⟩ := r.mu j e q
    exact ⟨a, by rw [set_ne (Ne.symm z)]; exact h1, h2⟩
  · obtain ⟨z, q⟩ := mono j _ (fun _ z => by cases z) q
    obtain ⟨a, h1, h2⟩ := r.io j e q
    exact ⟨a, by rw [set_ne (Ne.symm z)]; exact h1, h2⟩
  · obtain ⟨e, q⟩ := r.iob j a q
    have z : i ≠ j := fun z => free_io hf e (z ▸ q)
    exact ⟨e, by rw [set_ne z]; exact q⟩
  · have k1 : j ≠ i ∧ (g[j]? = some (.mu e) ∨ g[j]? = some (.io e)) := by
      rcases h1 with h1 | h1
      · obtain ⟨z, q⟩ := mono j _ (fun _ z => by cases z) h1; exact ⟨z, .inl q⟩
      · obtain ⟨z, q⟩ := mono j _ (fun _ z => by cases z) h1; exact ⟨z, .inr q⟩
    have k2 : l ≠ i ∧ (g[l]? = some (.mu e') ∨ g[l]? = some (.io e')) := by
      rcases h2 with h2 | h2
      · obtain ⟨z, q⟩ := mono l _ (fun _ z => by cases z) h2; exact ⟨z, .inl q⟩
      · obtain ⟨z, q⟩ := mono l _ (fun _ z => by cases z) h2; exact ⟨z, .inr q⟩
    rw [set_ne (Ne.symm k1.1)] at q1
    rw [set_ne (Ne.symm k2.1)] at q2
    exact r.sep j l e e' a k1.2 k2.2 q1 q2
/-- a new object becomes the slot's own -/
theorem Rep.putMu {i : Nat} {p : Addr} {d : D} (r0 : Rep C S g σ H) (r : Rep C (S.add p) g σ H) (hf : free? g i = true) (h0 : C.H0 p = none) (hs : ¬ S p) (m : MuO C.K (fun b => S b ∨ b = p) H p d) :
    Rep C (S.own p) (g.set i (.mu d)) (σ.set i (some (.ref p))) H := by
  have hi := free_lt hf
  have hσ : i < σ.length := by rw [r.len]; exact hi
  refine ⟨by rw [List.length_set, List.length_set]; exact r.len, fun j e q => ?_, fun j e q => ?_, fun j e q => ?_, fun j a q => ?_, fun j l e e' a h1 h2 q1 q2 => ?_, r.dom, r.sub, r.s0, r.i0, r.fr⟩
  · by_cases z : i = j
    · subst z
      rw [set_eq hi] at q
      cases q
    · rw [set_ne z] at q
      obtain ⟨w, h1, h2⟩ := r.im j e q
      exact ⟨w, by rw [set_ne z]; exact h1, h2⟩
  · by_cases z : i = j
    · subst z
      rw [set_eq hi] at q
      cases q
      exact ⟨p, set_eq hσ, .inr rfl, h0, m⟩
    · rw [set_ne z] at q
      obtain ⟨a, h1, h2, h3, h4⟩ := r.mu j e q
      exact ⟨a, by rw [set_ne z]; exact h1, .inl h2, h3, h4⟩
  · by_cases z : i = j
    · subst z
      rw [set_eq hi] at q
      cases q
    · rw [set_ne z] at q
      obtain ⟨a, h1, h2, h3, h4⟩ := r.io j e q
      exact ⟨a, by rw [set_ne z]; exact h1, .inl h2, h3, h4⟩
  · obtain ⟨e, q⟩ := r.iob j a q
    have z : i ≠ j := fun z => free_io hf e (z ▸ q)
    exact ⟨e, by rw [set_ne z]; exact q⟩
  · have inS : ∀ (x : Nat) (y : D) (b : Addr), i ≠ x → ((g.set i (.mu d))[x]? = some (.mu y) ∨ (g.set i (.mu d))[x]? = some (.io y)) → (σ.set i (some (.ref p)))[x]? = some (some (.ref b)) → (g[x]? = some (.mu y) ∨ g[x]? = some (.io y)) ∧ σ[x]? = some (some (.ref b)) ∧ S b := fun x y b hx h q => by
      rw [set_ne hx] at h q
      refine ⟨h, q, ?_⟩
      rcases h with h | h
      · obtain ⟨c, h1, h2, _⟩ := r0.mu x y h
        rw [h1] at q; cases q; exact S.sub _ h2
      · obtain ⟨c, h1, h2, _⟩ := r0.io x y h
        rw [h1] at q; cases q; exact S.sub _ h2
    by_cases z1 : i = j
    · by_cases z2 : i = l
      · rw [← z1, ← z2]
      · obtain ⟨_, _, hb⟩ := inS l e' a z2 h2 q2
        subst z1
        rw [set_eq hσ] at q1
        cases q1
        exact absurd hb hs
    · by_cases z2 : i = l
      · obtain ⟨_, _, hb⟩ := inS j e a z1 h1 q1
        subst z2
        rw [set_eq hσ] at q2
        cases q2
        exact absurd hb hs
      · obtain ⟨k1, k2, _⟩ := inS j e a z1 h1 q1
        obtain ⟨k3, k4, _⟩ := inS l e' a z2 h2 q2
        exact r0.sep j l e e' a k1 k3 k2 k4
/-- an own or lent object has changed -/
def putMut (i : Nat) (d : D) (g : G) : Option G := match g[i]? with
  | some (.mu _) => some (g.set i (.mu d))
  | some (.io _) => some (g.set i (.io d))
  | _ => none
def mutOf (g : G) (i : Nat) : Option D := match g[i]? with
  | some (.mu d) => some d
  | some (.io d) => some d
  | _ => none
theorem Rep.mutAt (r : Rep C S g σ H) {i : Nat} {d : D} (h : mutOf g i = some d) : ∃ a, σ[i]? = some (some (.ref a)) ∧ S.m a ∧ (C.H0 a = none ∨ C.io i = some a) ∧ MuO C.K S H a d := by
  unfold mutOf at h
  split at h
  · rename_i e
    cases h
    obtain ⟨a, h1, h2, h3, h4⟩ := r.mu i _ e
    exact ⟨a, h1, h2, .inl h3, h4⟩
  · rename_i e
    cases h
    obtain ⟨a, h1, h2, h3, h4⟩ := r.io i _ e
    exact ⟨a, h1, h2, .inr h3, h4⟩
  · cases h
theorem Rep.mutTo {H' : Hp} {d' : D} (r : Rep C S g σ H) {i : Nat} {a : Addr} {d : D} (h : mutOf g i = some d) (ha : σ[i]? = some (some (.ref a))) (st : ∀ b o, b ≠ a → H b = some o → H' b = some o) (m : MuO C.K S H' a d') (hp : putMut i d' g = some g') :
    Rep C S g' σ H' ∧ Mov true S H H' := by
  obtain ⟨a', e1, hS, hH, m0⟩ := r.mutAt h
  rw [ha] at e1
  cases e1
  have mv : Mov true S H H' := fun b o e n => st b o (fun z => n (z ▸ hS)) e
  have st' : ∀ b, b ≠ a → H b ≠ none → H' b = H b := fun b hb h0 => by
    cases q : H b with
    | none => exact absurd q h0
    | some o => exact st b o hb q
  have sp : Stp S H S H' := mv.stp
  refine ⟨?_, mv⟩
  have hi : i < g.length := by
    unfold mutOf at h
    cases e : g[i]? with
    | none => rw [e] at h; cases h
    | some z => exact (List.getElem?_eq_some_iff.mp e).1
  -- the new states of the slots
  have key : (∃ d0, g[i]? = some (.mu d0) ∧ g' = g.set i (.mu d')) ∨ ∃ d0, g[i]? = some (.io d0) ∧ g' = g.set i (.io d') := by
    unfold putMut at hp
    split at hp
    · rename_i q; cases hp; exact .inl ⟨_, q, rfl⟩
    · rename_i q; cases hp; exact .inr ⟨_, q, rfl⟩
    · cases hp
  have other : ∀ (j : Nat), i ≠ j → g'[j]? = g[j]? := fun j z => by
    rcases key with ⟨_, _, rfl⟩ | ⟨_, _, rfl⟩ <;> exact set_ne z
  have len : g'.length = g.length := by rcases key with ⟨_, _, rfl⟩ | ⟨_, _, rfl⟩ <;> rw [List.length_set]
  have there : (∃ d0, g[i]? = some (.mu d0) ∧ g'[i]? = some (.mu d')) ∨ ∃ d0, g[i]? = some (.io d0) ∧ g'[i]? = some (.io d') := by
    rcases key with ⟨d0, q, rfl⟩ | ⟨d0, q, rfl⟩
    · exact .inl ⟨d0, q, set_eq hi⟩
    · exact .inr ⟨d0, q, set_eq hi⟩
  have apart : ∀ (j : Nat) (e : D) (b : Addr), i ≠ j → (g[j]? = some (.mu e) ∨ g[j]? = some (.io e)) → σ[j]? = some (some (.ref b)) → b ≠ a := fun j e b z h1 h2 q => by
    subst q
    have hg : g[i]? = some (.mu d) ∨ g[i]? = some (.io d) := by
      unfold mutOf at h
      split at h
      · rename_i w; cases h; exact .inl w
      · rename_i w; cases h; exact .inr w
      · cases h
    exact z (r.sep i j d e b hg h1 ha h2)
  refine ⟨by rw [len]; exact r.len, fun j e q => ?_, fun j e q => ?_, fun j e q => ?_, fun j b q => ?_, fun j l e e' b h1 h2 q1 q2 => ?_, fun b hb => ?_, r.sub, r.s0, r.i0, fun b o e n => ?_⟩
  · by_cases z : i = j
    · subst z
      rcases there with ⟨_, _, w⟩ | ⟨_, _, w⟩ <;> (rw [w] at q; cases q)
    · rw [other j z] at q
      obtain ⟨w, h1, h2⟩ := r.im j e q
      exact ⟨w, h1, h2.stp sp⟩
  · by_cases z : i = j
    · subst z
      rcases there with ⟨d0, w0, w⟩ | ⟨_, _, w⟩
      · rw [w] at q
        cases q
        obtain ⟨c, h1, h2, h3, h4⟩ := r.mu i d0 w0
        rw [ha] at h1
        cases h1
        exact ⟨a, ha, h2, h3, m⟩
      · rw [w] at q; cases q
    · rw [other j z] at q
      obtain ⟨c, h1, h2, h3, h4⟩ := r.mu j e q
      exact ⟨c, h1, h2, h3, h4.stp sp (st' c (apart j e c z (.inl q) h1) h4.there)⟩
  · by_cases z : i = j
    · subst z
      rcases there with ⟨_, _, w⟩ | ⟨d0, w0, w⟩
      · rw [w] at q; cases q
      · rw [w] at q
        cases q
        obtain ⟨c, h1, h2, h3, h4⟩ := r.io i d0 w0
        rw [ha] at h1
        cases h1
        exact ⟨a, ha, h2, h3, m⟩
    · rw [other j z] at q
      obtain ⟨c, h1, h2, h3, h4⟩ := r.io j e q
      exact ⟨c, h1, h2, h3, h4.stp sp (st' c (apart j e c z (.inr q) h1) h4.there)⟩
  · obtain ⟨e, q⟩ := r.iob j b q
    by_cases z : i = j
    · subst z
      rcases there with ⟨_, w0, w⟩ | ⟨d0, w0, w⟩
      · rw [w0] at q; cases q
      · exact ⟨d', w⟩
    · exact ⟨e, by rw [other j z]; exact q⟩
  · have back : ∀ (x : Nat) (y : D), (g'[x]? = some (.mu y) ∨ g'[x]? = some (.io y)) → ∃ y', g[x]? = some (.mu y') ∨ g[x]? = some (.io y') := fun x y hx => by
      by_cases z : i = x
      · subst z
        rcases there with ⟨d0, w0, _⟩ | ⟨d0, w0, _⟩
        · exact ⟨d0, .inl w0⟩
        · exact ⟨d0, .inr w0⟩
      · rw [other x z] at hx
        exact ⟨y, hx⟩
    obtain ⟨y1, k1⟩ := back j e h1
    obtain ⟨y2, k2⟩ := back l e' h2
    exact r.sep j l y1 y2 b k1 k2 q1 q2
  · by_cases z : b = a
    · subst z; exact m.there
    · rw [st' b z (r.dom b hb)]; exact r.dom b hb
  · have z : b ≠ a := fun z => by
      subst z
      rcases hH with hH | hH
      · rw [hH] at e; cases e
      · exact n i hH
    exact st b o z (r.fr b o e n)
end

def sSeq (F1 F2 : MS) : MS := fun g => match F1 g with
  | some (.nx g') => F2 g'
  | r => r
def sNext : MS := fun g => some (.nx g)
def sSet (i : Nat) (f : MF) : MS := sThen f fun _ d g => match putIm i d g with
  | some g' => some (.nx g')
  | none => none
/-- name = a new list or dict that will be changed -/
def sSetMu (i : Nat) (f : MF) : MS := sThen f fun n d g => if n = true ∧ free? g i = true then some (.nx (g.set i (.mu d))) else none
def sExpr (f : MF) : MS := sThen f fun _ _ g => some (.nx g)
def sRet (f : MF) : MS := sThen f fun n d g => some (.rt n d g)
/-- return x, x the def's own list or dict -/
def sRetMu (i : Nat) : MS := fun g => match g[i]? with
  | some (.mu d) => some (.rt true d g)
  | _ => none
def sIf (c : MF) (F1 F2 : MS) : MS := sTest c fun b => if b = true then F1 else F2
section
variable {X : Cx} {C : Cxt} {E : XK} {st : Stmt} {sts : List Stmt} {e : Expr} {pos : Pos} {f c : MF} {F F1 F2 : MS} {Z : Ends} {σ : L2.St} {H : Hp}
theorem ss_nil : PSs X [] (ts C E sNext) := PSs.imp pss_nil fun Z σ H h => by
  obtain ⟨S, g, r, h⟩ := h
  exact h σ S H r (.refl S H)
theorem ts_seq (h : ts C E (sSeq F1 F2) Z σ H) : tSeq (ts C E F1) (ts C E F2) Z σ H := by
  obtain ⟨S, g, r, h⟩ := h
  refine ⟨S, g, r, ?_⟩
  unfold sSeq at h
  cases e : F1 g with
  | none => rw [e] at h; exact h
  | some z =>
    rw [e] at h
    cases z with
    | nx g' => exact fun σ' S' H' r1 k1 => ⟨S', g', r1, RtP.later h k1⟩
    | bk g' => exact h
    | ct g' => exact h
    | rt n d g' => exact h
    | ex c g' => exact h
theorem ss_cons (h1 : PS X st (ts C E F1)) (h2 : PSs X sts (ts C E F2)) : PSs X (st :: sts) (ts C E (sSeq F1 F2)) := PSs.imp (pss_cons h1 h2) fun _ _ _ => ts_seq
theorem ss_one (h1 : PS X st (ts C E F1)) : PSs X [st] (ts C E F1) := pss_one h1
theorem s_set {i : Nat} (h : PS X st (tAsg (tv C E true f) (gName i))) : PS X st (ts C E (sSet i f)) := PS.imp h fun Z σ H h => by
  refine s_then h fun S g n d v H1 rp sp vl _ _ q => ?_
  unfold putIm at q
  by_cases z : free? g i = true
  · rw [if_pos z] at q
    exact q _ S H1 (rp.put z vl.1) sp
  · rw [if_neg z] at q
    exact q.elim
theorem s_setMu {i : Nat} (h : PS X st (tAsg (tv C E true f) (gName i))) : PS X st (ts C E (sSetMu i f)) := PS.imp h fun Z σ H h => by
  refine s_then h fun S g n d v H1 rp sp vl x r0 q => ?_
  by_cases z : n = true ∧ free? g i = true
  · rw [if_pos z] at q
    obtain ⟨p, e, hp, mo⟩ := vl.2 z.1
    obtain ⟨g0, r0⟩ := r0
    subst e
    refine q _ (S.own p) H1 (rp.putMu (x z.1 p rfl) z.2 (r0.fresh0 hp) (r0.fresh hp) mo) fun b o e nb => ⟨(sp b o e nb).1, fun y => y.elim nb fun y => ?_⟩
    rw [y, hp] at e
    cases e
  · rw [if_neg z] at q
    exact q.elim
theorem s_expr (h : PS X st (tDrop (tv C E true f))) : PS X st (ts C E (sExpr f)) := PS.imp h fun Z σ H h => by
  refine s_then h fun S g n d v H1 rp sp vl x r0 q => ?_
  exact q σ S H1 rp sp
theorem s_ret (h : PS X st (tRet (tv C E true f))) : PS X st (ts C E (sRet f)) := PS.imp h fun Z σ H h => by
  refine s_then h fun S g n d v H1 rp sp vl x r0 q => ?_
  obtain ⟨g0, r0⟩ := r0
  have vl' : Val C.K C.S0 C.H0 H1 n v d := ⟨Tr.stp (stp_sub r0.sub) d v vl.1, fun hn => by
    obtain ⟨p, e, hp, mo⟩ := vl.2 hn
    exact ⟨p, e, r0.fresh0 hp, mo.stp (stp_sub fun a ha => ha.imp (r0.sub a) id) rfl⟩⟩
  cases n with
  | false => exact q v σ S H1 rp vl' fun z => by cases z
  | true =>
    obtain ⟨p, e, hp, mo⟩ := vl.2 rfl
    exact q v σ _ H1 (x rfl p e) vl' fun _ p' e' => by
      rw [e] at e'
      cases e'
      exact .inr rfl
theorem s_retMu {i : Nat} (h : PS X st (tRet (tVar i))) : PS X st (ts C E (sRetMu i)) := PS.imp h fun Z σ H h => by
  obtain ⟨S, g, r, h⟩ := h
  unfold sRetMu at h
  cases e : g[i]? with
  | none => rw [e] at h; exact h.elim
  | some sd =>
    rw [e] at h
    cases sd with
    | mu d =>
      obtain ⟨a, h1, h2, h3, h4⟩ := r.mu i d e
      refine ⟨.ref a, h1, h (.ref a) σ S H r ⟨?_, fun _ => ⟨a, rfl, h3, h4.stp (stp_sub fun b hb => hb.elim (r.sub b) fun z => z ▸ S.sub a h2) rfl⟩⟩ fun _ p hp => by cases hp; exact S.sub a h2⟩
      have ns : ¬ C.S0 a := fun z => r.s0 a z h3
      cases d with
      | lst ds => obtain ⟨xs, q, t⟩ := h4; exact .lst q ns (t.stp (stp_sub r.sub))
      | dic ds => obtain ⟨xs, q, t⟩ := h4; exact .dic q ns (t.stp (stp_sub r.sub))
      | dit ds => obtain ⟨xs, q, t⟩ := h4; exact .dit q ns (t.stp (stp_sub r.sub))
      | _ => exact h4.elim
    | _ => exact h.elim
theorem s_if {a b : List Stmt} {t : Expr} (hc : PT X t (tb C E true c)) (ha : PSs X a (ts C E F1)) (hb : PSs X b (ts C E F2)) : PS X (.If t a b pos) (ts C E (sIf c F1 F2)) := PS.imp (ps_if hc ha hb) fun Z σ H h => by
  refine s_test h fun S g b H1 rp sp q => ?_
  cases b with
  | true => exact iteT ⟨S, g, rp, q⟩
  | false => exact iteF ⟨S, g, rp, q⟩
/-- an own list or dict is changed no more: from here on it is data (nothing is run) -/
def demote (i : Nat) (F : MS) : MS := fun g => match g[i]? with
  | some (.mu d) => F (g.set i (.im d))
  | _ => none
theorem demote_rep {S : AS} {g : G} {i : Nat} {d : D} (r : Rep C S g σ H) (e : g[i]? = some (.mu d)) : ∃ a, σ[i]? = some (some (.ref a)) ∧ Rep C (S.del a) (g.set i (.im d)) σ H := by
  obtain ⟨a, h1, h2, h3, h4⟩ := r.mu i d e
  have hi : i < g.length := (List.getElem?_eq_some_iff.mp e).1
  have hσ : i < σ.length := by rw [r.len]; exact hi
  have s0 : ∀ b, C.S0 b → b ≠ a := fun b hb z => r.s0 b hb (z ▸ h3)
  have sp : Stp S H (fun b => S b ∧ b ≠ a) H := stp_sub fun b hb => hb.1
  refine ⟨a, h1, by rw [List.length_set]; exact r.len, fun j e' q => ?_, fun j e' q => ?_, fun j e' q => ?_, fun j b q => ?_, fun j l e1 e2 b k1 k2 q1 q2 => ?_, fun b hb => r.dom b hb.1, fun b hb => ⟨r.sub b hb, s0 b hb⟩, r.s0, r.i0, r.fr⟩
  · by_cases z : i = j
    · subst z
      rw [set_eq hi] at q
      cases q
      refine ⟨.ref a, h1, ?_⟩
      have na : ¬ (S a ∧ a ≠ a) := fun z => z.2 rfl
      cases d with
      | lst ds => obtain ⟨xs, q, t⟩ := h4; exact .lst q na (t.stp sp)
      | dic ds => obtain ⟨xs, q, t⟩ := h4; exact .dic q na (t.stp sp)
      | dit ds => obtain ⟨xs, q, t⟩ := h4; exact .dit q na (t.stp sp)
      | _ => exact h4.elim
    · rw [set_ne z] at q
      obtain ⟨w, k1, k2⟩ := r.im j e' q
      exact ⟨w, k1, k2.stp sp⟩
  · by_cases z : i = j
    · subst z
      rw [set_eq hi] at q
      cases q
    · rw [set_ne z] at q
      obtain ⟨b, k1, k2, k3, k4⟩ := r.mu j e' q
      exact ⟨b, k1, ⟨k2, fun y => z (r.sep i j d e' b (.inl e) (.inl q) (y ▸ h1) k1)⟩, k3, k4.stp sp rfl⟩
  · by_cases z : i = j
    · subst z
      rw [set_eq hi] at q
      cases q
    · rw [set_ne z] at q
      obtain ⟨b, k1, k2, k3, k4⟩ := r.io j e' q
      exact ⟨b, k1, ⟨k2, fun y => z (r.sep i j d e' b (.inl e) (.inr q) (y ▸ h1) k1)⟩, k3, k4.stp sp rfl⟩
  · obtain ⟨e', q⟩ := r.iob j b q
    have z : i ≠ j := fun z => by subst z; rw [e] at q; cases q
    exact ⟨e', by rw [set_ne z]; exact q⟩
  · have back : ∀ (x : Nat) (y : D), ((g.set i (.im d))[x]? = some (.mu y) ∨ (g.set i (.im d))[x]? = some (.io y)) → (g[x]? = some (.mu y) ∨ g[x]? = some (.io y)) := fun x y hx => by
      by_cases z : i = x
      · subst z
        rw [set_eq hi] at hx
        rcases hx with hx | hx <;> cases hx
      · rw [set_ne z] at hx
        exact hx
    exact r.sep j l e1 e2 b (back j e1 k1) (back l e2 k2) q1 q2
def flat? : D → Bool
  | .non => true
  | .bl _ => true
  | .int _ => true
  | .str _ => true
  | _ => false
def mFrz (i : Nat) (f : MF) : MF := fun g => match g[i]? with
  | some (.mu d) => match f (g.set i (.im d)) with
    | some (.ok _ r _) => if flat? r = true then some (.ok false r g) else none
    | _ => none
  | _ => none
theorem flat_tr {K : PySem.W.Frag} {S S' : Addr → Prop} {H : Hp} {v : V} {d : D} (h : flat? d = true) (t : Tr K S H v d) : Tr K S' H v d := by
  cases d with
  | non => cases t; exact .non
  | bl _ => cases t; exact .bl _
  | int _ => cases t; exact .int _
  | str _ => cases t; exact .str _
  | _ => cases h
theorem tv_frz {m : Bool} {i : Nat} {Q : VK} (h : tv C E m (mFrz i f) σ H Q) : tv C E false f σ H Q := by
  obtain ⟨S, g, r, h⟩ := h
  unfold mFrz at h
  cases e : g[i]? with
  | none => rw [e] at h; exact h.elim
  | some sd =>
    rw [e] at h
    cases sd with
    | mu d =>
      obtain ⟨a, h1, r'⟩ := demote_rep r e
      refine ⟨_, _, r', ?_⟩
      simp only at h
      cases e2 : f (g.set i (.im d)) with
      | none => rw [e2] at h; exact h.elim
      | some z =>
        rw [e2] at h
        cases z with
        | ex c g' => exact h.elim
        | ok n z g' =>
          intro v H' r1 m1 v1 _
          simp only at h
          by_cases hf : flat? z = true
          · rw [if_pos hf] at h
            exact h v H' (r.grow m1) (.of m1) (.flat (flat_tr hf v1.1)) fun z => by cases z
          · rw [if_neg hf] at h
            exact h.elim
    | _ => exact h.elim
def LMut (K : PySem.W.Frag) (r : V → List V → Hp → VK → Prop) (o : D → List D → Option (D × D)) : Prop :=
  ∀ (S : Addr → Prop) (H : Hp) (a : Addr) (d : D) (vs : List V) (ds : List D) (res d' : D) (Q : VK), Dom S H → S a → MuO K S H a d → TrL K S H vs ds → o d ds = some (res, d') →
    (∀ v H', (∀ b, b ≠ a → H' b = H b) → MuO K S H' a d' → Tr K S H' v res → Q v H') → r (.ref a) vs H Q
def mMut (i : Nat) (T : String) (o : D → List D → Option (D × D)) (fs : MA) : MF := fun g => match mutOf g i with
  | some d0 => if isTy T d0 = true then aThen fs (fun ds g => match mutOf g i with
    | some d => match o d ds with
      | some (res, d') => match putMut i d' g with
        | some g' => some (.ok false res g')
        | none => none
      | none => none
    | none => none) g else none
  | none => none
theorem mu_ty {K : PySem.W.Frag} {S : Addr → Prop} {T : String} {a : Addr} {d : D} (m : MuO K S H a d) (h : isTy T d = true) : tyV K T (.ref a) H := by
  cases d with
  | lst ds => obtain ⟨xs, q, t⟩ := m; exact .inl ⟨eq_of_beq h, _, SqL.of q⟩
  | dic ds => obtain ⟨xs, q, t⟩ := m; exact .inr (.inr (.inl ⟨eq_of_beq h, .inl ⟨_, q⟩⟩))
  | dit ds => cases h
  | _ => exact m.elim
theorem Rep.there {S : AS} {g : G} (r : Rep C S g σ H) {i : Nat} {d : D} (h : mutOf g i = some d) : ∃ a, σ[i]? = some (some (.ref a)) ∧ S a ∧ MuO C.K S H a d := by
  obtain ⟨a, h1, h2, _, h4⟩ := r.mutAt h
  exact ⟨a, h1, S.sub a h2, h4⟩
theorem tv_mut {i : Nat} {T : String} {o : D → List D → Option (D × D)} {fs : MA} {r : V → List V → Hp → VK → Prop} {Q : VK} (hK : X.K = C.K) (l : LMut C.K r o) (h : tv C E true (mMut i T o fs) σ H Q) : tBM X.K T r (tVar i) (ta C E true fs) σ H Q := by
  obtain ⟨S, g, rp, h⟩ := h
  unfold mMut at h
  cases e : mutOf g i with
  | none => rw [e] at h; exact h.elim
  | some d0 =>
    rw [e] at h
    simp only at h
    by_cases ht : isTy T d0 = true
    · rw [if_pos ht] at h
      obtain ⟨a, h1, h2, h3⟩ := rp.there e
      refine ⟨.ref a, h1, by rw [hK]; exact mu_ty h3 ht, S, g, rp, ra_then h fun g2 ds vs H2 rp2 mv2 t2 q2 => ?_⟩
      cases e2 : mutOf g2 i with
      | none => rw [e2] at q2; exact q2.elim
      | some d =>
        rw [e2] at q2
        simp only at q2
        cases e3 : o d ds with
        | none => rw [e3] at q2; exact q2.elim
        | some z =>
          obtain ⟨res, d'⟩ := z
          rw [e3] at q2
          simp only at q2
          cases e4 : putMut i d' g2 with
          | none => rw [e4] at q2; exact q2.elim
          | some g' =>
            rw [e4] at q2
            obtain ⟨a', k1, k2, k3⟩ := rp2.there e2
            rw [h1] at k1
            cases k1
            refine l S H2 a d vs ds res d' Q rp2.dom k2 k3 t2 e3 fun v H' st m t => ?_
            obtain ⟨r', sp⟩ := rp2.mutTo e2 h1 (fun b o hb hq => (st b hb).trans hq) m e4
            exact q2 v H' r' sp (.flat t) fun z => by cases z
    · rw [if_neg ht] at h
      exact h.elim
theorem e_mut {i : Nat} {T : String} {o : D → List D → Option (D × D)} {fs : MA} {r : V → List V → Hp → VK → Prop} (hK : X.K = C.K) (l : LMut C.K r o) (h : PE X e (tBM X.K T r (tVar i) (ta C E true fs))) : PE X e (tv C E true (mMut i T o fs)) := PE.imp h fun _ _ _ => tv_mut hK l
def LSet (K : PySem.W.Frag) (t : TSet) (o : D → D → D → Option D) : Prop :=
  ∀ (S : Addr → Prop) (H : Hp) (a : Addr) (d : D) (i v : V) (di dv d' : D) (Q : Hp → Prop), Dom S H → S a → MuO K S H a d → Tr K S H i di → Tr K S H v dv → o d di dv = some d' →
    (∀ H', (∀ b, b ≠ a → H' b = H b) → MuO K S H' a d' → Q H') → t (.ref a) i v H Q
def sSetIx (i : Nat) (o : D → D → D → Option D) (fi fe : MF) : MS := sThen fe fun _ dv g => match mutOf g i with
  | some _ => sThen fi (fun _ di g => match mutOf g i with
    | some d => match o d di dv with
      | some d' => match putMut i d' g with
        | some g' => some (.nx g')
        | none => none
      | none => none
    | none => none) g
  | none => none
theorem s_setIx {i : Nat} {t : TSet} {o : D → D → D → Option D} {fi fe : MF} (l : LSet C.K t o) (h : PS X st (tAsg (tv C E true fe) (gSub (tVar i) (tv C E true fi) t))) : PS X st (ts C E (sSetIx i o fi fe)) := PS.imp h fun Z σ H h => by
  refine s_then h fun S g n dv v H1 rp sp vl _ _ q => ?_
  cases e : mutOf g i with
  | none => rw [e] at q; exact q.elim
  | some d0 =>
    rw [e] at q
    obtain ⟨a, h1, h2, h3⟩ := rp.there e
    refine ⟨.ref a, h1, S, g, rp, rt_then (RtP.later q sp) fun g2 n2 di u H2 rp2 sp2 vl2 _ q2 => ?_⟩
    cases e2 : mutOf g2 i with
    | none => rw [e2] at q2; exact q2.elim
    | some d =>
      rw [e2] at q2
      simp only at q2
      cases e3 : o d di dv with
      | none => rw [e3] at q2; exact q2.elim
      | some d' =>
        rw [e3] at q2
        simp only at q2
        cases e4 : putMut i d' g2 with
        | none => rw [e4] at q2; exact q2.elim
        | some g' =>
          rw [e4] at q2
          obtain ⟨a', k1, k2, k3⟩ := rp2.there e2
          rw [h1] at k1
          cases k1
          refine l S H2 a d u v di dv d' _ rp2.dom k2 k3 vl2.1 (Tr.stp sp2 dv v vl.1) e3 fun H' st m => ?_
          obtain ⟨r', sp3⟩ := rp2.mutTo e2 h1 (fun b o hb hq => (st b hb).trans hq) m e4
          exact q2 σ S H' r' (sp2.trans sp3.stp)
def mRd (i : Nat) (o : D → D → Option (Bool × D)) (fi : MF) : MF := fun g => match mutOf g i with
  | some _ => andThen fi (fun _ di g => match mutOf g i with
    | some d => match o d di with
      | some (_, r) => if flat? r = true then some (.ok false r g) else none
      | none => none
    | none => none) g
  | none => none
end
end TL
set_option Elab.async false
set_option linter.all false
set_option maxRecDepth 100000
set_option maxHeartbeats 4000000
namespace TL
open PySem PySem.Spec PyProof.Rows L2

theorem mu_tr {K : PySem.W.Frag} {S : Addr → Prop} {H : Hp} {a : Addr} {d : D} (m : MuO K S H a d) : Tr K (fun b => S b ∧ b ≠ a) H (.ref a) d := by
  have na : ¬ (S a ∧ a ≠ a) := fun z => z.2 rfl
  cases d with
  | lst ds => obtain ⟨xs, q, t⟩ := m; exact .lst q na (t.stp (stp_sub fun _ h => h.1))
  | dic ds => obtain ⟨xs, q, t⟩ := m; exact .dic q na (t.stp (stp_sub fun _ h => h.1))
  | dit ds => obtain ⟨xs, q, t⟩ := m; exact .dit q na (t.stp (stp_sub fun _ h => h.1))
  | _ => exact m.elim
section
variable {X : Cx} {C : Cxt} {E : XK} {st : Stmt} {e e' : Expr} {es : List Expr} {pos p : Pos} {f fi : MF} {σ : L2.St} {H : Hp} {m : Bool} {x : Str} {Q : VK}
theorem tv_rd {i : Nat} {r : R2} {o : D → D → Option (Bool × D)} (l : L2r C.K r o) (h : tv C E m (mRd i o fi) σ H Q) : tOp r (tVar i) (tv C E m fi) σ H Q := by
  obtain ⟨S, g, rp, h⟩ := h
  unfold mRd at h
  cases e : mutOf g i with
  | none => rw [e] at h; exact h.elim
  | some d0 =>
    rw [e] at h
    obtain ⟨a, h1, h2, h3⟩ := rp.there e
    refine ⟨.ref a, h1, S, g, rp, ?_⟩
    unfold andThen at h
    simp only at h
    cases e1 : fi g with
    | none => rw [e1] at h; exact h
    | some z =>
      rw [e1] at h
      cases z with
      | ex c g' => exact h
      | ok n di g' =>
        intro v H1 r1 m1 v1 _
        simp only at h
        cases e2 : mutOf g' i with
        | none => rw [e2] at h; exact h.elim
        | some d =>
          rw [e2] at h
          simp only at h
          cases e3 : o d di with
          | none => rw [e3] at h; exact h.elim
          | some z =>
            obtain ⟨n3, z⟩ := z
            rw [e3] at h
            simp only at h
            by_cases hf : flat? z = true
            · rw [if_pos hf] at h
              obtain ⟨a', k1, k2, k3⟩ := r1.there e2
              rw [h1] at k1
              cases k1
              refine l (fun b => S b ∧ b ≠ a) H1 (.ref a) v d di n3 z Q (fun b hb => r1.dom b hb.1) (mu_tr k3) (Tr.stp (stp_sub fun _ h => h.1) di v v1.1) e3 fun w H2 sm vl => ?_
              exact h w H2 (r1.grow sm) (m1.trans (.of sm)) (.flat (flat_tr hf vl.1)) fun z => by cases z
            · rw [if_neg hf] at h
              exact h.elim
theorem e_rdIx {i : Nat} {pn : Pos} {r : R2} {o : D → D → Option (Bool × D)} {nm : Str} (ho : IxR X r) (l : L2r C.K r o) (hv : PE X (.Name nm pn) (tVar i)) (hi : PE X e (tv C E m fi)) (hs : PlainIx e := by intro _ _; rfl) : PE X (.Subscript (.Name nm pn) e pos) (tv C E m (mRd i o fi)) :=
  PE.imp (pe_ix ho hv hi hs) fun _ _ _ => tv_rd l
/-- a built-in of one argument, the slot's list -/
def mRd1 (i : Nat) (o : List D → Option (Bool × D)) : MF := fun g => match mutOf g i with
  | some d => match o [d] with
    | some (_, r) => if flat? r = true then some (.ok false r g) else none
    | none => none
  | none => none
structure Wk (K : PySem.W.Frag) (S : Addr → Prop) (H : Hp) (J : It) (ds : List D) : Prop where
  go : ∀ (i : Nat) S1 H1, Stp S H S1 H1 → i < ds.length → J.go i H1
  yl : ∀ (i : Nat) S1 H1 x H2 d, Stp S H S1 H1 → Dom S1 H1 → ds[i]? = some d → J.yld i H1 x H2 → Same H1 H2 ∧ Tr K S1 H2 x d
  st : ∀ (i : Nat) S1 H1, Stp S H S1 H1 → ds.length ≤ i → J.stop i H1
def TiP (C : Cxt) (E : XK) (m : Bool) (S : AS) (σ : L2.St) (H : Hp) (R : It → Hp → Prop) : Option Ra → Prop
  | none => False
  | some (.ok ds g') => ∀ J H', Rep C S g' σ H' → Mov m S H H' → Wk C.K S H' J ds → R J H'
  | some (.ex c g') => ∀ cv H', C.mg c = some cv → Rep C S g' σ H' → E cv none H'
def ti (C : Cxt) (E : XK) (m : Bool) (f : MA) : TI := fun σ H R => ∃ S g, Rep C S g σ H ∧ TiP C E m S σ H R (f g)
theorem PI.imp {tg iter : Expr} {w w' : TI} (h : PI X tg iter w) (k : ∀ σ H R, w' σ H R → w σ H R) : PI X tg iter w' := ⟨fun pins s σ H R I hw => h.run pins s σ H R I (k σ H R hw)⟩
theorem PI.or {tg iter : Expr} {w w' : TI} (h : PI X tg iter w) (h' : PI X tg iter w') : PI X tg iter (fun σ H R => w σ H R ∨ w' σ H R) := ⟨fun pins s σ H R I hw => hw.elim (h.run pins s σ H R I) (h'.run pins s σ H R I)⟩
def signs (s : Str) : List D := s.cps.toList.map fun c => .str ⟨#[c]⟩
def itemsD : D → Option (List D)
  | .lst ds => some ds
  | .tup ds => some ds
  | .str s => some (signs s)
  | .ro ns => some (ns.map .int)
  | _ => none
def iItems (f : MF) : MA := fun g => match f g with
  | none => none
  | some (.ex c g') => some (.ex c g')
  | some (.ok _ d g') => match itemsD d with
    | some ds => some (.ok ds g')
    | none => none
theorem wk_list {K : PySem.W.Frag} {S : Addr → Prop} {a : Addr} {xs : List V} {ds : List D} (h : H a = some (.lst xs)) (n : ¬ S a) (t : TrL K S H xs ds) : Wk K S H (Itl K a) ds where
  go := fun i S1 H1 sp hi => by
    obtain ⟨v, h1, h2⟩ := t.get (List.getElem?_eq_getElem hi)
    exact ⟨xs, v, SqL.of (sp a _ h n).1, h1⟩
  yl := fun i S1 H1 x H2 d sp dm hd y => by
    obtain ⟨rfl, y⟩ := y
    obtain ⟨v, h1, h2⟩ := t.get hd
    have e := y xs (SqL.of (sp a _ h n).1)
    rw [h1] at e
    cases e
    exact ⟨Same.refl _, h2.stp sp⟩
  st := fun i S1 H1 sp hi => ⟨xs, SqL.of (sp a _ h n).1, by rw [t.length]; exact hi⟩
theorem wk_tup {K : PySem.W.Frag} {S : Addr → Prop} {a : Addr} {xs : List V} {ds : List D} (h : ∀ S1 H1, Stp S H S1 H1 → SqT K H1 a xs) (t : TrL K S H xs ds) : Wk K S H (Itt K a) ds where
  go := fun i S1 H1 sp hi => by
    obtain ⟨v, h1, h2⟩ := t.get (List.getElem?_eq_getElem hi)
    exact ⟨xs, v, h S1 H1 sp, h1⟩
  yl := fun i S1 H1 x H2 d sp dm hd y => by
    obtain ⟨rfl, y⟩ := y
    obtain ⟨v, h1, h2⟩ := t.get hd
    have e := y xs (h S1 _ sp)
    rw [h1] at e
    cases e
    exact ⟨Same.refl _, h2.stp sp⟩
  st := fun i S1 H1 sp hi => ⟨xs, h S1 H1 sp, by rw [t.length]; exact hi⟩
theorem wk_ro {K : PySem.W.Frag} {S : Addr → Prop} {a : Addr} {o : Obj} {ns : List Int} (h : H a = some (.frz o (.lst (ns.map V.int)))) (n : ¬ S a) : Wk K S H (Itl K a) (ns.map .int) where
  go := fun i S1 H1 sp hi => by
    rw [List.length_map] at hi
    exact ⟨ns.map V.int, .int ns[i], .inl (.inr ⟨o, (sp a _ h n).1⟩), by rw [List.getElem?_map, List.getElem?_eq_getElem hi]; rfl⟩
  yl := fun i S1 H1 x H2 d sp dm hd y => by
    obtain ⟨rfl, y⟩ := y
    have e := y (ns.map V.int) (.inl (.inr ⟨o, (sp a _ h n).1⟩))
    rw [List.getElem?_map] at hd e
    cases q : ns[i]? with
    | none => rw [q] at e; cases e
    | some k =>
      rw [q] at e hd
      cases e; cases hd
      exact ⟨Same.refl _, .int k⟩
  st := fun i S1 H1 sp hi => ⟨ns.map V.int, .inl (.inr ⟨o, (sp a _ h n).1⟩), by rw [List.length_map] at hi ⊢; exact hi⟩
theorem wk_roK {K : PySem.W.Frag} {S : Addr → Prop} {a : Addr} {ns : List Int} (h : ∀ H' : Hp, SqL K H' a (ns.map V.int)) : Wk K S H (Itl K a) (ns.map .int) where
  go := fun i S1 H1 sp hi => by
    rw [List.length_map] at hi
    exact ⟨ns.map V.int, .int ns[i], h H1, by rw [List.getElem?_map, List.getElem?_eq_getElem hi]; rfl⟩
  yl := fun i S1 H1 x H2 d sp dm hd y => by
    obtain ⟨rfl, y⟩ := y
    have e := y (ns.map V.int) (h _)
    rw [List.getElem?_map] at hd e
    cases q : ns[i]? with
    | none => rw [q] at e; cases e
    | some k =>
      rw [q] at e hd
      cases e; cases hd
      exact ⟨Same.refl _, .int k⟩
  st := fun i S1 H1 sp hi => ⟨ns.map V.int, h H1, by rw [List.length_map] at hi ⊢; exact hi⟩
theorem wk_str {K : PySem.W.Frag} {S : Addr → Prop} {s : Str} : Wk K S H (Its s) (signs s) where
  go := fun i S1 H1 sp hi => by
    unfold signs at hi
    rw [List.length_map, Array.length_toList] at hi
    exact hi
  yl := fun i S1 H1 x H2 d sp dm hd y => by
    obtain ⟨rfl, c, h1, rfl⟩ := y
    unfold signs at hd
    rw [List.getElem?_map, Array.getElem?_toList, h1] at hd
    cases hd
    exact ⟨Same.refl _, .str _⟩
  st := fun i S1 H1 sp hi => by
    unfold signs at hi
    rw [List.length_map, Array.length_toList] at hi
    exact hi
theorem i_items {tg : Expr} (hK : X.K = C.K) (h : PE X e (tv C E m f)) : PI X tg e (ti C E m (iItems f)) := by
  refine PI.imp (PI.or (PI.or (pi_list h) (pi_tup h)) (pi_str h)) fun σ H R hw => ?_
  obtain ⟨S, g, rp, hw⟩ := hw
  unfold iItems at hw
  have no : f g = none → False := fun e => by rw [e] at hw; exact hw
  cases e : f g with
  | none => exact (no e).elim
  | some z =>
    rw [e] at hw
    have mk : ∀ {P : V → Hp → Prop}, (∀ n d g', z = .ok n d g' → ∀ v H', Rep C S g' σ H' → Mov m S H H' → Tr C.K S H' v d → P v H') → tv C E m f σ H P := fun {P} k => ⟨S, g, rp, by
      rw [e]
      cases z with
      | ok n d g' => exact fun v H' a b c _ => k n d g' rfl v H' a b c.1
      | ex c g' => exact hw⟩
    cases z with
    | ex c g' => exact .inl (.inl (mk fun n d g' q => by cases q))
    | ok n d g' =>
      simp only at hw
      cases d with
      | lst ds =>
        refine .inl (.inl (mk fun n2 d2 g2 q v H' r1 m1 t => ?_))
        cases q
        cases t with
        | lst h1 n1 t1 => exact ⟨_, rfl, ⟨_, SqL.of h1⟩, hw _ H' r1 m1 (by rw [hK]; exact wk_list h1 n1 t1)⟩
      | ro ds =>
        refine .inl (.inl (mk fun n2 d2 g2 q v H' r1 m1 t => ?_))
        cases q
        cases t with
        | ro h1 n1 => exact ⟨_, rfl, ⟨_, .inl (.inr ⟨_, h1⟩)⟩, hw _ H' r1 m1 (by rw [hK]; exact wk_ro h1 n1)⟩
        | roK h1 => exact ⟨_, rfl, ⟨_, by rw [hK]; exact h1 H'⟩, hw _ H' r1 m1 (by rw [hK]; exact wk_roK h1)⟩
      | tup ds =>
        refine .inl (.inr (mk fun n2 d2 g2 q v H' r1 m1 t => ?_))
        cases q
        cases t with
        | tup h1 n1 t1 => exact ⟨_, rfl, ⟨_, SqT.of h1⟩, hw _ H' r1 m1 (by rw [hK]; exact wk_tup (fun S1 H1 sp => SqT.of (sp _ _ h1 n1).1) t1)⟩
        | tupK h1 t1 => exact ⟨_, rfl, ⟨_, by rw [hK]; exact h1 H'⟩, hw _ H' r1 m1 (by rw [hK]; exact wk_tup (fun S1 H1 sp => h1 H1) t1)⟩
      | str s =>
        refine .inr (mk fun n2 d2 g2 q v H' r1 m1 t => ?_)
        cases q
        cases t
        exact ⟨_, rfl, hw _ H' r1 m1 wk_str⟩
      | _ => exact hw.elim
/-- range(..) -/
def rangeL (lo : Int) (n : Nat) : List D := (List.range n).map fun (i : Nat) => D.int (lo + (i : Int))
def ok62 (j : Int) : Bool := decide (-(2 ^ 62) ≤ j ∧ j < 2 ^ 62)
def range1D : List D → Option (List D)
  | [.int j] => if ok62 j = true then some (rangeL 0 j.toNat) else none
  | _ => none
def iOf (o : List D → Option (List D)) (fs : MA) : MA := fun g => match fs g with
  | none => none
  | some (.ex c g') => some (.ex c g')
  | some (.ok ds g') => match o ds with
    | some l => some (.ok l g')
    | none => none
theorem wk_range {K : PySem.W.Frag} {S : Addr → Prop} {lo : Int} {n : Nat} : Wk K S H (Itr lo n) (rangeL lo n) where
  go := fun i S1 H1 sp hi => by
    unfold rangeL at hi
    rw [List.length_map, List.length_range] at hi
    exact hi
  yl := fun i S1 H1 x H2 d sp dm hd y => by
    obtain ⟨rfl, rfl⟩ := y
    unfold rangeL at hd
    rw [List.getElem?_map] at hd
    cases q : (List.range n)[i]? with
    | none => rw [q] at hd; cases hd
    | some k =>
      rw [q] at hd
      cases hd
      have e : k = i := by
        obtain ⟨h1, h2⟩ := List.getElem?_eq_some_iff.mp q
        rw [List.getElem_range] at h2
        exact h2.symm
      subst e
      exact ⟨Same.refl _, .int _⟩
  st := fun i S1 H1 sp hi => by
    unfold rangeL at hi
    rw [List.length_map, List.length_range] at hi
    exact hi
theorem ti_of {o : List D → Option (List D)} {fs : MA} {R : It → Hp → Prop} {P : List V → Hp → Prop} (h : ti C E m (iOf o fs) σ H R) (hk : ∀ S g ds vs l H1, Rep C S g σ H1 → TrL C.K S H1 vs ds → o ds = some l → (∀ J, Wk C.K S H1 J l → R J H1) → P vs H1) : ta C E m fs σ H P := by
  obtain ⟨S, g, rp, h⟩ := h
  refine ⟨S, g, rp, ?_⟩
  unfold iOf at h
  cases e : fs g with
  | none => rw [e] at h; exact h
  | some z =>
    rw [e] at h
    cases z with
    | ex c g' => exact h
    | ok ds g' =>
      intro vs H' r1 m1 t1
      simp only at h
      cases er : o ds with
      | none => rw [er] at h; exact h.elim
      | some l =>
        rw [er] at h
        exact hk S g' ds vs l H' r1 t1 er fun J w => h J H' r1 m1 w
theorem i_range1 {tg a : Expr} {fs : MA} (hg : Gl X "range") (hm : X.mg "range" = none) (ha : PA X [a] (ta C E m fs)) (hs : starEach [a] X.env = [(false, eval a X.env)] := by rfl) : PI X tg (.Call (.Name "range" p) [a] [] pos) (ti C E m (iOf range1D fs)) :=
  PI.imp (pi_range1 hg hm ha hs) fun σ H R h => ti_of h fun S g ds vs l H1 rp t er k => by
    unfold range1D at er
    split at er
    · obtain ⟨v, rfl, t'⟩ := trl1 t
      cases t'
      split at er
      · rename_i hz
        cases er
        have hz := of_decide_eq_true hz
        exact ⟨_, rfl, hz.1, hz.2, k _ wk_range⟩
      · cases er
    · cases er
/-- enumerate(xs), zip(xs, ys) -/
def enumL : Nat → List D → List D
  | _, [] => []
  | i, d :: ds => .tup [.int (i : Nat), d] :: enumL (i + 1) ds
theorem enumL_len : ∀ (ds : List D) (k : Nat), (enumL k ds).length = ds.length
  | [], _ => rfl
  | _ :: ds, k => congrArg Nat.succ (enumL_len ds (k + 1))
theorem enumL_get : ∀ (ds : List D) (k i : Nat) (d : D), (enumL k ds)[i]? = some d → ∃ x, ds[i]? = some x ∧ d = .tup [.int ((k + i : Nat) : Int), x]
  | [], _, _, _, h => by simp [enumL] at h
  | x :: ds, k, 0, d, h => by
    cases h
    exact ⟨x, rfl, rfl⟩
  | x :: ds, k, i + 1, d, h => by
    obtain ⟨y, h1, h2⟩ := enumL_get ds (k + 1) i d h
    exact ⟨y, h1, by rw [h2, Nat.add_right_comm, Nat.add_assoc]⟩
def zipL : List D → List D → List D
  | d :: ds, e :: es => .tup [d, e] :: zipL ds es
  | _, _ => []
theorem zipL_len : ∀ (ds es : List D), (zipL ds es).length = min ds.length es.length
  | [], _ => by simp [zipL]
  | _ :: _, [] => by simp [zipL]
  | _ :: ds, _ :: es => by
    show (zipL ds es).length + 1 = min (ds.length + 1) (es.length + 1)
    rw [zipL_len ds es]
    omega
theorem zipL_get : ∀ (ds es : List D) (i : Nat) (d : D), (zipL ds es)[i]? = some d → ∃ x y, ds[i]? = some x ∧ es[i]? = some y ∧ d = .tup [x, y]
  | [], _, _, _, h => by simp [zipL] at h
  | _ :: _, [], _, _, h => by simp [zipL] at h
  | x :: ds, y :: es, 0, d, h => by
    cases h
    exact ⟨x, y, rfl, rfl, rfl⟩
  | x :: ds, y :: es, i + 1, d, h => zipL_get ds es i d h
theorem new_tup {K : PySem.W.Frag} {S : Addr → Prop} {T : Addr} {xs : List V} {ds : List D} (dm : Dom S H) (n : H T = none) (t : TrL K S H xs ds) : Tr K S (upd H T (.tup xs)) (.ref T) (.tup ds) :=
  .tup upd_same (notS dm n) (t.stp (.ext (same_new n)))
theorem wk_enum {K : PySem.W.Frag} {S : Addr → Prop} {a : Addr} {xs : List V} {ds : List D} (h : H a = some (.lst xs)) (n : ¬ S a) (t : TrL K S H xs ds) : Wk K S H (Ite K a) (enumL 0 ds) where
  go := fun i S1 H1 sp hi => by
    rw [enumL_len] at hi
    obtain ⟨v, h1, h2⟩ := t.get (List.getElem?_eq_getElem hi)
    exact ⟨xs, v, SqL.of (sp a _ h n).1, h1⟩
  yl := fun i S1 H1 x H2 d sp dm hd y => by
    obtain ⟨z, h1, rfl⟩ := enumL_get ds 0 i d hd
    obtain ⟨T, w, rfl, nT, rfl, y⟩ := y
    obtain ⟨v, k1, k2⟩ := t.get h1
    have e := y xs (SqL.of (sp a _ h n).1)
    rw [k1] at e
    cases e
    refine ⟨same_new nT, new_tup dm nT (.cons ?_ (.one (k2.stp sp)))⟩
    rw [Nat.zero_add]
    exact .int _
  st := fun i S1 H1 sp hi => ⟨xs, SqL.of (sp a _ h n).1, by rw [enumL_len] at hi; rw [t.length]; exact hi⟩
theorem lst_at {K : PySem.W.Frag} {S : Addr → Prop} {v : V} {ds : List D} (t : Tr K S H v (.lst ds)) : ∃ a xs, v = .ref a ∧ H a = some (.lst xs) ∧ ¬ S a ∧ TrL K S H xs ds := by
  cases t with
  | lst h n t => exact ⟨_, _, rfl, h, n, t⟩
def LG (C : Cxt) (gt : TG) (tg : D → G → Option G) (own : List Nat) : Prop :=
  ∀ (S : AS) (g g1 : G) (σ : L2.St) (H : Hp) (v : V) (d : D) (Q : L2.St → Hp → Prop), Rep C S g σ H → Tr C.K S H v d → tg d g = some g1 →
    (∀ σ', Rep C S g1 σ' H → σ'.length = σ.length → (∀ j, j ∉ own → σ'[j]? = σ[j]?) → Q σ' H) → gt v σ H Q
theorem lg_name {i : Nat} : LG C (gName i) (putIm i) [i] := fun S g g1 σ H v d Q rp t hg k => by
  unfold putIm at hg
  split at hg
  · rename_i hf
    cases hg
    exact k _ (rp.put hf t) (by rw [List.length_set]) fun j hj => set_ne fun z => hj (by rw [z]; exact List.mem_singleton_self _)
  · cases hg
/-- a, b, .. = a tuple -/
def LGs (C : Cxt) (gt : TGs) (tg : List D → G → Option G) (own : List Nat) : Prop :=
  ∀ (S : AS) (g g1 : G) (σ : L2.St) (H : Hp) (vs : List V) (ds : List D) (Q : L2.St → Hp → Prop), Rep C S g σ H → TrL C.K S H vs ds → tg ds g = some g1 →
    (∀ σ', Rep C S g1 σ' H → σ'.length = σ.length → (∀ j, j ∉ own → σ'[j]? = σ[j]?) → Q σ' H) → gt vs σ H Q
def gsNil : List D → G → Option G
  | [], g => some g
  | _, _ => none
def gsCons (t : D → G → Option G) (ts : List D → G → Option G) : List D → G → Option G
  | d :: ds, g => match t d g with
    | some g' => ts ds g'
    | none => none
  | [], _ => none
theorem lgs_nil : LGs C gNil gsNil [] := fun S g g1 σ H vs ds Q rp t hg k => by
  cases t with
  | nil => cases hg; exact ⟨rfl, k σ rp rfl fun _ _ => rfl⟩
  | cons _ _ => cases hg
theorem lgs_cons {gt : TG} {gts : TGs} {tg : D → G → Option G} {tgs : List D → G → Option G} {o o' : List Nat} (h : LG C gt tg o) (h' : LGs C gts tgs o') : LGs C (gCons gt gts) (gsCons tg tgs) (o ++ o') := fun S g g1 σ H vs ds Q rp t hg k => by
  cases t with
  | nil => cases hg
  | cons t1 t2 =>
    unfold gsCons at hg
    simp only at hg
    split at hg
    · rename_i g2 hg2
      exact ⟨_, _, rfl, h S g g2 σ H _ _ _ rp t1 hg2 fun σ' r1 l1 s1 => h' S g2 g1 σ' H _ _ _ r1 t2 hg fun σ2 r2 l2 s2 => k σ2 r2 (l2.trans l1) fun j hj => (s2 j fun z => hj (List.mem_append_right _ z)).trans (s1 j fun z => hj (List.mem_append_left _ z))⟩
    · cases hg
def gTupD (n : Nat) (ts : List D → G → Option G) : D → G → Option G
  | .tup ds, g => if ds.length = n then ts ds g else none
  | _, _ => none
theorem lg_tup {n : Nat} {gts : TGs} {tgs : List D → G → Option G} {o : List Nat} (h : LGs C gts tgs o) : LG C (gTup C.K n gts) (gTupD n tgs) o := fun S g g1 σ H v d Q rp t hg k => by
  unfold gTupD at hg
  split at hg
  · split at hg
    · rename_i hn
      obtain ⟨a, xs, rfl, h1, h2⟩ := tup_sq t
      exact ⟨a, xs, rfl, h1, by rw [h2.length]; exact hn, h S g g1 σ H xs _ Q rp h2 hg k⟩
    · cases hg
  · cases hg
/-- target = e, the target a tuple of names -/
def sAsg (tg : D → G → Option G) (f : MF) : MS := sThen f fun _ d g => match tg d g with
  | some g' => some (.nx g')
  | none => none
theorem s_asg {gt : TG} {tg : D → G → Option G} {o : List Nat} (l : LG C gt tg o) (h : PS X st (tAsg (tv C E true f) gt)) : PS X st (ts C E (sAsg tg f)) := PS.imp h fun Z σ H h => by
  refine s_then h fun S g n d v H1 rp sp vl _ _ q => ?_
  cases e : tg d g with
  | none => rw [e] at q; exact q.elim
  | some g' =>
    rw [e] at q
    exact l S g g' σ H1 v d _ rp vl.1 e fun σ' r' _ _ => q σ' S H1 r' sp

def loopF (tg : D → G → Option G) (F : MS) : List D → MS
  | [], g => some (.nx g)
  | d :: ds, g => match tg d g with
    | none => none
    | some g1 => match F g1 with
      | some (.nx g2) => loopF tg F ds g2
      | some (.ct g2) => loopF tg F ds g2
      | some (.bk g2) => some (.nx g2)
      | r => r
def sFor (it : MA) (tg : D → G → Option G) (F : MS) : MS := fun g => match it g with
  | none => none
  | some (.ex c g') => some (.ex c g')
  | some (.ok ds g') => loopF tg F ds g'
theorem ts_for {it : MA} {gt : TG} {tg : D → G → Option G} {F : MS} {o : List Nat} {Z : Ends} (l : LG C gt tg o) (h : ts C E (sFor it tg F) Z σ H) : tFor (ti C E true it) gt (ts C E F) Z σ H := by
  obtain ⟨S, g, rp, h⟩ := h
  refine ⟨S, g, rp, ?_⟩
  unfold sFor at h
  cases e : it g with
  | none => rw [e] at h; exact h
  | some z =>
    rw [e] at h
    cases z with
    | ex c g' => exact fun cv H' q r' => h cv σ S H' q r'
    | ok ds g' =>
      intro J H1 r1 m1 wk
      have h1 : RtP C E S H1 Z (loopF tg F ds g') := RtP.later h m1.stp
      refine ⟨fun i k σ' H' => ∃ S' gg, Rep C S' gg σ' H' ∧ Stp S H1 S' H' ∧ i + k = ds.length ∧ RtP C E S' H' Z (loopF tg F (ds.drop i) gg), ⟨ds.length, S, g', r1, .refl _ _, Nat.zero_add _, h1⟩, ?_⟩
      rintro i k σ' H' ⟨S', gg, r2, sp, hk, q⟩
      by_cases hi : i < ds.length
      · right
        have ed : ds.drop i = ds[i] :: ds.drop (i + 1) := List.drop_eq_getElem_cons hi
        rw [ed] at q
        refine ⟨wk.go i S' H' sp hi, fun σ3 H3 => ∃ S3 g3, Rep C S3 g3 σ3 H3 ∧ Stp S H1 S3 H3 ∧ RtP C E S3 H3 Z (loopF tg F (ds.drop (i + 1)) g3), fun σ3 H3 hN => ?_, fun x H2 y => ?_⟩
        · obtain ⟨S3, g3, r3, sp3, q3⟩ := hN
          exact ⟨k - 1, by omega, S3, g3, r3, sp3, by omega, q3⟩
        · obtain ⟨sm, t⟩ := wk.yl i S' H' x H2 ds[i] sp r2.dom (List.getElem?_eq_getElem hi) y
          have r2' := r2.grow sm
          unfold loopF at q
          cases et : tg ds[i] gg with
          | none => simp only [et] at q; exact q.elim
          | some g1 =>
            simp only [et] at q
            refine l S' gg g1 σ' H2 x ds[i] _ r2' t et fun σ2 r3 _ _ => ⟨S', g1, r3, ?_⟩
            have q : RtP C E S' H2 Z _ := RtP.later q (.ext sm)
            have sp2 : Stp S H1 S' H2 := sp.trans (.ext sm)
            cases ef : F g1 with
            | none => simp only [ef] at q; exact q
            | some z =>
              simp only [ef] at q
              cases z with
              | nx g2 => exact fun σ4 S4 H4 r4 sp4 => ⟨S4, g2, r4, sp2.trans sp4, RtP.later q sp4⟩
              | ct g2 => exact fun σ4 S4 H4 r4 sp4 => ⟨S4, g2, r4, sp2.trans sp4, RtP.later q sp4⟩
              | bk g2 => exact q
              | rt n d g2 => exact q
              | ex c g2 => exact q
      · left
        have ei : i = ds.length := by omega
        subst ei
        rw [List.drop_length] at q
        exact ⟨wk.st _ S' H' sp (Nat.le_refl _), q σ' S' H' r2 (.refl _ _)⟩
theorem s_for {it : MA} {gt : TG} {tg : D → G → Option G} {F : MS} {o : List Nat} {target iter : Expr} {body : List Stmt} (hp : PassesOwn (model X.prog X.w) X.A X.env X.xe) (hc : X.calm = true) (l : LG C gt tg o) (hi : PI X target iter (ti C E true it)) (hg : PG X target gt) (hb : PSs X body (ts C E F))
    (hs : ∀ x, foldedSetIterable iter X.env x = pure x := by intro _; rfl) : PS X (.For target iter body [] pos) (ts C E (sFor it tg F)) := PS.imp (ps_for hp hc hi hg hb hs) fun _ _ _ => ts_for l
end
end TL
set_option Elab.async false
set_option linter.all false
set_option maxRecDepth 100000
set_option maxHeartbeats 4000000
namespace TL
open PySem PySem.Spec PyProof.Rows L2

def isMut : SD → Nat
  | .no => 0
  | .im _ => 0
  | .mu _ => 1
  | .io _ => 2
def shape (g : G) : List Nat := g.map isMut
def wipeG (g : G) : List Nat → G
  | [] => g
  | v :: vs => (wipeG g vs).set v .no
def backG (g0 g : G) : List Nat → G
  | [] => g
  | v :: vs => (backG g0 g vs).set v (g0.getD v .no)
theorem wipeG_len (g : G) : ∀ vs, (wipeG g vs).length = g.length
  | [] => rfl
  | v :: vs => by unfold wipeG; rw [List.length_set, wipeG_len g vs]
theorem backG_len (g0 g : G) : ∀ vs, (backG g0 g vs).length = g.length
  | [] => rfl
  | v :: vs => by unfold backG; rw [List.length_set, backG_len g0 g vs]
theorem wipeG_get (g : G) (j : Nat) : ∀ vs, (wipeG g vs)[j]? = if j ∈ vs ∧ j < g.length then some .no else g[j]?
  | [] => by rw [if_neg (by simp)]; rfl
  | v :: vs => by
    unfold wipeG
    by_cases e : v = j
    · subst e
      by_cases hl : v < g.length
      · rw [set_eq (by rw [wipeG_len]; exact hl), if_pos ⟨List.mem_cons_self, hl⟩]
      · rw [if_neg fun z => hl z.2, List.getElem?_eq_none (by rw [List.length_set, wipeG_len]; omega), List.getElem?_eq_none (by omega)]
    · rw [set_ne e, wipeG_get g j vs]
      have : (j ∈ v :: vs) ↔ j ∈ vs := by simp [Ne.symm e]
      simp only [this]
theorem wipe_get (σ : L2.St) (j : Nat) : ∀ vs, (wipe σ vs)[j]? = if j ∈ vs ∧ j < σ.length then some none else σ[j]?
  | [] => by rw [if_neg (by simp)]; rfl
  | v :: vs => by
    unfold wipe
    by_cases e : v = j
    · subst e
      by_cases hl : v < σ.length
      · rw [set_eq (by rw [wipe_length]; exact hl), if_pos ⟨List.mem_cons_self, hl⟩]
      · rw [if_neg fun z => hl z.2, List.getElem?_eq_none (by rw [List.length_set, wipe_length]; omega), List.getElem?_eq_none (by omega)]
    · rw [set_ne e, wipe_get σ j vs]
      have : (j ∈ v :: vs) ↔ j ∈ vs := by simp [Ne.symm e]
      simp only [this]
theorem backG_get (g0 g : G) (j : Nat) : ∀ vs, (backG g0 g vs)[j]? = if j ∈ vs ∧ j < g.length then some (g0.getD j .no) else g[j]?
  | [] => by rw [if_neg (by simp)]; rfl
  | v :: vs => by
    unfold backG
    by_cases e : v = j
    · subst e
      by_cases hl : v < g.length
      · rw [set_eq (by rw [backG_len]; exact hl), if_pos ⟨List.mem_cons_self, hl⟩]
      · rw [if_neg fun z => hl z.2, List.getElem?_eq_none (by rw [List.length_set, backG_len]; omega), List.getElem?_eq_none (by omega)]
    · rw [set_ne e, backG_get g0 g j vs]
      have : (j ∈ v :: vs) ↔ j ∈ vs := by simp [Ne.symm e]
      simp only [this]
/-- none of the slots is an own or lent object's -/
def plain? (g : G) : List Nat → Bool
  | [] => true
  | v :: vs => (match g[v]? with
    | some (.mu _) => false
    | some (.io _) => false
    | _ => true) && plain? g vs
theorem plain_at {g : G} : ∀ {vs : List Nat} {j : Nat}, plain? g vs = true → j ∈ vs → (∀ d, g[j]? ≠ some (.mu d)) ∧ ∀ d, g[j]? ≠ some (.io d)
  | [], _, _, hj => by cases hj
  | v :: vs, j, h, hj => by
    unfold plain? at h
    rw [Bool.and_eq_true] at h
    rcases List.mem_cons.mp hj with rfl | hj
    · have h1 := h.1
      refine ⟨fun d e => ?_, fun d e => ?_⟩ <;> (rw [e] at h1; cases h1)
    · exact plain_at h.2 hj
section
variable {C : Cxt} {S : AS} {g g' gk : G} {σ σ2 : L2.St} {H H1 : Hp} {vs : List Nat}
theorem Rep.wiped (r : Rep C S g σ H) (hp : plain? g vs = true) : Rep C S (wipeG g vs) (wipe σ vs) H := by
  have out : ∀ (j : Nat) (z : SD), z ≠ .no → (wipeG g vs)[j]? = some z → g[j]? = some z ∧ (wipe σ vs)[j]? = σ[j]? := fun j z hz e => by
    rw [wipeG_get] at e
    by_cases c : j ∈ vs ∧ j < g.length
    · rw [if_pos c] at e
      exact absurd (Option.some.inj e).symm hz
    · rw [if_neg c] at e
      refine ⟨e, ?_⟩
      rw [wipe_get, if_neg (by rw [r.len]; exact c)]
  refine ⟨by rw [wipe_length, wipeG_len]; exact r.len, fun j e q => ?_, fun j e q => ?_, fun j e q => ?_, fun j a q => ?_, fun j l e e' a h1 h2 q1 q2 => ?_, r.dom, r.sub, r.s0, r.i0, r.fr⟩
  · obtain ⟨q, w⟩ := out j _ (by intro z; cases z) q
    obtain ⟨v, h1, h2⟩ := r.im j e q
    exact ⟨v, by rw [w]; exact h1, h2⟩
  · obtain ⟨q, w⟩ := out j _ (by intro z; cases z) q
    obtain ⟨v, h1, h2⟩ := r.mu j e q
    exact ⟨v, by rw [w]; exact h1, h2⟩
  · obtain ⟨q, w⟩ := out j _ (by intro z; cases z) q
    obtain ⟨v, h1, h2⟩ := r.io j e q
    exact ⟨v, by rw [w]; exact h1, h2⟩
  · obtain ⟨e, q⟩ := r.iob j a q
    refine ⟨e, ?_⟩
    rw [wipeG_get, if_neg fun z => (plain_at hp z.1).2 e q]
    exact q
  · have k : ∀ (x : Nat) (y : D), ((wipeG g vs)[x]? = some (.mu y) ∨ (wipeG g vs)[x]? = some (.io y)) → (g[x]? = some (.mu y) ∨ g[x]? = some (.io y)) ∧ (wipe σ vs)[x]? = σ[x]? := fun x y h => by
      rcases h with h | h
      · obtain ⟨q, w⟩ := out x _ (by intro z; cases z) h; exact ⟨.inl q, w⟩
      · obtain ⟨q, w⟩ := out x _ (by intro z; cases z) h; exact ⟨.inr q, w⟩
    obtain ⟨k1, w1⟩ := k j e h1
    obtain ⟨k2, w2⟩ := k l e' h2
    rw [w1] at q1
    rw [w2] at q2
    exact r.sep j l e e' a k1 k2 q1 q2
/-- the block's names are forgotten again -/
theorem Rep.backed (rk : Rep C S gk σ H) (r : Rep C S g σ2 H1) (sp : Stp S H S H1) (hp : plain? gk vs = true) (hw : wipe σ2 vs = wipe σ vs) (hl : g.length = gk.length) : Rep C S (backG gk g vs) σ H1 := by
  have hs : ∀ j, j ∉ vs → σ2[j]? = σ[j]? := fun j hj => by
    have e := congrArg (fun l : L2.St => l[j]?) hw
    simp only [wipe_get, if_neg (fun z : j ∈ vs ∧ j < σ2.length => hj z.1), if_neg (fun z : j ∈ vs ∧ j < σ.length => hj z.1)] at e
    exact e
  have inn : ∀ (j : Nat) (z : SD), (backG gk g vs)[j]? = some z → (j ∉ vs ∧ g[j]? = some z) ∨ (j ∈ vs ∧ gk[j]? = some z) := fun j z e => by
    rw [backG_get] at e
    by_cases c : j ∈ vs ∧ j < g.length
    · rw [if_pos c] at e
      have hj : j < gk.length := by rw [← hl]; exact c.2
      rw [List.getD_eq_getElem?_getD, List.getElem?_eq_getElem hj] at e
      exact .inr ⟨c.1, by rw [List.getElem?_eq_getElem hj]; exact e⟩
    · rw [if_neg c] at e
      refine .inl ⟨fun hj => ?_, e⟩
      exact c ⟨hj, (List.getElem?_eq_some_iff.mp e).1⟩
  refine ⟨by rw [backG_len, hl]; exact rk.len, fun j e q => ?_, fun j e q => ?_, fun j e q => ?_, fun j a q => ?_, fun j l e e' a h1 h2 q1 q2 => ?_, r.dom, r.sub, r.s0, r.i0, r.fr⟩
  · rcases inn j _ q with ⟨n, q⟩ | ⟨n, q⟩
    · obtain ⟨v, h1, h2⟩ := r.im j e q
      exact ⟨v, by rw [← hs j n]; exact h1, h2⟩
    · obtain ⟨v, h1, h2⟩ := rk.im j e q
      exact ⟨v, h1, h2.stp sp⟩
  · rcases inn j _ q with ⟨n, q⟩ | ⟨n, q⟩
    · obtain ⟨v, h1, h2⟩ := r.mu j e q
      exact ⟨v, by rw [← hs j n]; exact h1, h2⟩
    · exact absurd q ((plain_at hp n).1 e)
  · rcases inn j _ q with ⟨n, q⟩ | ⟨n, q⟩
    · obtain ⟨v, h1, h2⟩ := r.io j e q
      exact ⟨v, by rw [← hs j n]; exact h1, h2⟩
    · exact absurd q ((plain_at hp n).2 e)
  · obtain ⟨e, q⟩ := r.iob j a q
    obtain ⟨e', q'⟩ := rk.iob j a ‹_›
    refine ⟨e, ?_⟩
    rw [backG_get, if_neg fun z => (plain_at hp z.1).2 e' q']
    exact q
  · have k : ∀ (x : Nat) (y : D), ((backG gk g vs)[x]? = some (.mu y) ∨ (backG gk g vs)[x]? = some (.io y)) → (g[x]? = some (.mu y) ∨ g[x]? = some (.io y)) ∧ σ2[x]? = σ[x]? := fun x y h => by
      rcases h with h | h
      · rcases inn x _ h with ⟨n, q⟩ | ⟨n, q⟩
        · exact ⟨.inl q, hs x n⟩
        · exact absurd q ((plain_at hp n).1 y)
      · rcases inn x _ h with ⟨n, q⟩ | ⟨n, q⟩
        · exact ⟨.inr q, hs x n⟩
        · exact absurd q ((plain_at hp n).2 y)
    obtain ⟨k1, w1⟩ := k j e h1
    obtain ⟨k2, w2⟩ := k l e' h2
    rw [← w1] at q1
    rw [← w2] at q2
    exact r.sep j l e e' a k1 k2 q1 q2
/-- an address less to avoid, where no own or lent object stands there -/
theorem Rep.less {p : Addr} (r0 : Rep C S g σ H) (r : Rep C (S.add p) g' σ H1) (hs : shape g' = shape g) : Rep C S g' σ H1 := by
  have sp : Stp (S.add p) H1 S H1 := stp_sub fun a ha => .inl ha
  have at' : ∀ (j : Nat) (z : SD), g'[j]? = some z → ∃ z0, g[j]? = some z0 ∧ isMut z0 = isMut z := fun j z e => by
    have h := congrArg (fun l : List Nat => l[j]?) hs
    unfold shape at h
    simp only [List.getElem?_map, e] at h
    cases q : g[j]? with
    | none => rw [q] at h; cases h
    | some z0 => rw [q] at h; exact ⟨z0, rfl, (Option.some.inj h).symm⟩
  refine ⟨r.len, fun i d q => ?_, fun i d q => ?_, fun i d q => ?_, r.iob, r.sep, fun a ha => r.dom a (.inl ha), r0.sub, r0.s0, r0.i0, r.fr⟩
  · obtain ⟨v, h1, h2⟩ := r.im i d q
    exact ⟨v, h1, h2.stp sp⟩
  · obtain ⟨a, h1, h2, h3, h4⟩ := r.mu i d q
    obtain ⟨z0, q0, e0⟩ := at' i _ q
    cases z0 with
    | mu d0 =>
      obtain ⟨b, k1, k2, _⟩ := r0.mu i d0 q0
      rw [h1] at k1
      cases k1
      exact ⟨a, h1, k2, h3, h4.stp sp rfl⟩
    | _ => cases e0
  · obtain ⟨a, h1, h2, h3, h4⟩ := r.io i d q
    obtain ⟨z0, q0, e0⟩ := at' i _ q
    cases z0 with
    | io d0 =>
      obtain ⟨b, k1, k2, _⟩ := r0.io i d0 q0
      rw [h1] at k1
      cases k1
      exact ⟨a, h1, k2, h3, h4.stp sp rfl⟩
    | _ => cases e0
end

/-- the turns of a comprehension -/
def testC : Option MF → MF
  | none => fun g => some (.ok false (.bl true) g)
  | some f => f
def compE (e : MF) (vs : List Nat) (k : List D → G → Option (List D × G)) (acc : List D) (g : G) : G → Option (List D × G) := fun g2 => match e g2 with
  | some (.ok _ z g3) => if acc.length < sizeLine ∧ g3.length = g.length then k (acc ++ [z]) (backG g g3 vs) else none
  | _ => none
def compT (c : Option MF) (e : MF) (vs : List Nat) (k : List D → G → Option (List D × G)) (acc : List D) (g : G) : G → Option (List D × G) := fun g1 => match testC c g1 with
  | some (.ok _ b g2) => match truth b with
    | some true => compE e vs k acc g g2
    | some false => if g2.length = g.length then k acc (backG g g2 vs) else none
    | none => none
  | _ => none
def compL (tg : D → G → Option G) (c : Option MF) (e : MF) (vs : List Nat) : List D → List D → G → Option (List D × G)
  | [], acc, g => some (acc, g)
  | d :: ds, acc, g => if plain? g vs = true then match tg d (wipeG g vs) with
    | none => none
    | some g1 => compT c e vs (compL tg c e vs ds) acc g g1
    else none
def compF (g' : G) : Option (List D × G) → Option Re
  | some (zs, g2) => if shape g2 = shape g' then some (.ok true (.lst zs) g2) else none
  | none => none
def mComp (it : MA) (tg : D → G → Option G) (c : Option MF) (e : MF) (vs : List Nat) : MF := fun g => match it g with
  | none => none
  | some (.ex x g') => some (.ex x g')
  | some (.ok ds g') => compF g' (compL tg c e vs ds [] g')
section
variable {C : Cxt} {E : XK} {m : Bool} {it : MA} {tg : D → G → Option G} {c : Option MF} {e : MF} {vs own : List Nat} {gt : TG} {σ : L2.St} {H : Hp} {Q : VK} {tt : TT}
def tC? (C : Cxt) (E : XK) (m : Bool) : Option MF → TT
  | none => tYes
  | some f => tb C E m f
/-- the word between the turns: the new list stands at L -/
structure CW (C : Cxt) (m : Bool) (S : AS) (L : Addr) (H1 : Hp) (σ : L2.St) (gg : G) (acc : List D) (H2 : Hp) : Prop where
  rep : Rep C (S.add L) gg σ H2
  lst : ∃ vacc, H2 L = some (.lst vacc) ∧ TrL C.K (S.add L) H2 vacc acc
  mv : Mov m S H1 H2
theorem stp_at {S : AS} {L : Addr} {H : Hp} {o : HO} : Stp (S.add L) H (S.add L) (upd H L o) := stp_mut (.inr rfl)
theorem mov_at {S : AS} {L : Addr} {H1 H2 : Hp} {o : HO} (hL : H1 L = none) (a : Mov m S H1 H2) : Mov m S H1 (upd H2 L o) := by
  cases m with
  | true =>
    intro b u e n
    rw [upd_ne (ne_of_none e hL)]
    exact a b u e n
  | false =>
    intro b u e
    rw [upd_ne (ne_of_none e hL)]
    exact (show Same H1 H2 from a) b u e
theorem mov_add {S : AS} {L : Addr} {H1 H2 : Hp} (a : Mov m (S.add L) H1 H2) : Mov m S H1 H2 := a
/-- an object that is neither lent nor own may be changed, where no tree leans on it -/
theorem Rep.side {S : AS} {L : Addr} {g : G} {o : HO} (r : Rep C (S.add L) g σ H) (nm : ¬ S.m L) (n0 : C.H0 L = none) : Rep C (S.add L) g σ (upd H L o) := by
  have sp : Stp (S.add L) H (S.add L) (upd H L o) := stp_at
  have keep : ∀ a, S.m a → upd H L o a = H a := fun a h => upd_ne fun z => nm (z ▸ h)
  refine ⟨r.len, fun i d q => ?_, fun i d q => ?_, fun i d q => ?_, r.iob, r.sep, fun a ha => ?_, r.sub, r.s0, r.i0, fun b u e n => ?_⟩
  · obtain ⟨v, h1, h2⟩ := r.im i d q
    exact ⟨v, h1, h2.stp sp⟩
  · obtain ⟨a, h1, h2, h3, h4⟩ := r.mu i d q
    exact ⟨a, h1, h2, h3, h4.stp sp (keep a h2)⟩
  · obtain ⟨a, h1, h2, h3, h4⟩ := r.io i d q
    exact ⟨a, h1, h2, h3, h4.stp sp (keep a h2)⟩
  · by_cases z : a = L
    · subst z; rw [upd_same]; exact fun z => nomatch z
    · rw [upd_ne z]; exact r.dom a ha
  · rw [upd_ne (ne_of_none e n0)]
    exact r.fr b u e n
theorem tv_comp (l : LG C gt tg own) (ho : ∀ j ∈ own, j ∈ vs) (h : tv C E m (mComp it tg c e vs) σ H Q) : tLc (ti C E m it) gt (tC? C E0 m c) (tv C E0 m e) vs σ H Q := by
  obtain ⟨S, g, rp, h⟩ := h
  refine ⟨S, g, rp, ?_⟩
  unfold mComp at h
  cases e1 : it g with
  | none => rw [e1] at h; exact h
  | some z =>
    rw [e1] at h
    cases z with
    | ex x g' => exact h
    | ok ds g' =>
      intro J H1 r1 m1 wk L hL
      have h := ReP.later h m1 r1.dom
      simp only at h
      have nS : ¬ S L := r1.fresh hL
      have nM : ¬ S.m L := fun z => nS (S.sub L z)
      have n0 : C.H0 L = none := r1.fresh0 hL
      have rL : Rep C (S.add L) g' σ (upd H1 L (.lst [])) := r1.growNew (same_new hL) hL (by rw [upd_same]; exact fun z => nomatch z)
      generalize hR : compF g' (compL tg c e vs ds [] g') = R at h
      refine ⟨fun i k H2 => ∃ gg acc, CW C m S L H1 σ gg acc H2 ∧ i + k = ds.length ∧ compF g' (compL tg c e vs (ds.drop i) acc gg) = R, ⟨ds.length, g', [], ⟨rL, ⟨[], upd_same, .nil⟩, .of (same_new hL)⟩, Nat.zero_add _, hR⟩, ?_⟩
      rintro i k H2 ⟨gg, acc, w, hk, q⟩
      have sp : Stp S H1 (S.add L) H2 := fun b o hb n => ⟨(w.mv.stp b o hb n).1, fun z => z.elim n fun z => by rw [z, hL] at hb; cases hb⟩
      by_cases hi : i < ds.length
      · right
        have ed : ds.drop i = ds[i] :: ds.drop (i + 1) := List.drop_eq_getElem_cons hi
        rw [ed] at q
        refine ⟨wk.go i _ H2 sp hi, fun H3 => ∃ gg acc, CW C m S L H1 σ gg acc H3 ∧ compF g' (compL tg c e vs (ds.drop (i + 1)) acc gg) = R, fun H3 hN => ?_, fun x H3 y => ?_⟩
        · obtain ⟨gg3, acc3, a1, a2⟩ := hN
          exact ⟨k - 1, by omega, gg3, acc3, a1, by omega, a2⟩
        have bad : ∀ {o : Option (List D × G)}, compF g' o = R → o ≠ none := fun {o} hq z => by
          subst z
          rw [← hq] at h
          exact h
        obtain ⟨sm, tx⟩ := wk.yl i _ H2 x H3 ds[i] sp w.rep.dom (List.getElem?_eq_getElem hi) y
        unfold compL at q
        by_cases hp : plain? gg vs = true
        · rw [if_pos hp] at q
          cases et : tg ds[i] (wipeG gg vs) with
          | none => rw [et] at q; exact absurd rfl (bad q)
          | some g1 =>
            rw [et] at q
            simp only at q
            have r3 := w.rep.grow sm
            refine l _ _ g1 _ H3 x ds[i] _ (r3.wiped hp) tx et fun σ2 r4 l4 o4 => ?_
            have hw : wipe σ2 vs = wipe σ vs := by
              apply List.ext_getElem?
              intro j
              have l5 : σ2.length = σ.length := by rw [l4, wipe_length]
              rw [wipe_get, wipe_get, l5]
              by_cases cj : j ∈ vs ∧ j < σ.length
              · rw [if_pos cj, if_pos cj]
              · rw [if_neg cj, if_neg cj]
                by_cases jv : j ∈ vs
                · rw [List.getElem?_eq_none (by have : ¬ j < σ.length := fun z => cj ⟨jv, z⟩; omega), List.getElem?_eq_none (by have : ¬ j < σ.length := fun z => cj ⟨jv, z⟩; omega)]
                · rw [o4 j fun z => jv (ho j z), wipe_get, if_neg fun z => jv z.1]
            refine ⟨hw, ?_⟩
            obtain ⟨vacc, hv, tv2⟩ := w.lst
            -- the element
            have elt : ∀ (g2 : G) (H4 : Hp), Rep C (S.add L) g2 σ2 H4 → Mov m (S.add L) H2 H4 → compF g' (compE e vs (compL tg c e vs (ds.drop (i + 1))) acc gg g2) = R →
                tv C E0 m e σ2 H4 fun y H5 => ∃ acc, H5 L = some (.lst acc) ∧ acc.length < sizeLine ∧ ∃ gg acc', CW C m S L H1 σ gg acc' (upd H5 L (.lst (acc ++ [y]))) ∧ compF g' (compL tg c e vs (ds.drop (i + 1)) acc' gg) = R := fun g2 H4 r5 m5 q2 => by
              refine ⟨S.add L, g2, r5, ?_⟩
              unfold compE at q2
              cases e2 : e g2 with
              | none => rw [e2] at q2; exact absurd rfl (bad q2)
              | some z =>
                rw [e2] at q2
                cases z with
                | ex x g3 => exact absurd rfl (bad q2)
                | ok n z g3 =>
                  intro v H5 r6 m6 v6 _
                  simp only at q2
                  by_cases hz : acc.length < sizeLine ∧ g3.length = gg.length
                  · rw [if_pos hz] at q2
                    have m7 : Mov m (S.add L) H2 H5 := m5.trans m6
                    have hv5 : H5 L = some (.lst vacc) := by
                      cases m with
                      | true => exact m7 L _ hv nM
                      | false => exact (show Same H2 H5 from m7) L _ hv
                    refine ⟨vacc, hv5, by rw [tv2.length]; exact hz.1, _, _, ⟨(w.rep.backed r6 m7.stp hp hw hz.2).side nM n0, ⟨_, upd_same, ((tv2.stp m7.stp).append (.one v6.1)).stp stp_at⟩, mov_at hL (w.mv.trans (mov_add m7))⟩, q2⟩
                  · rw [if_neg hz] at q2
                    exact absurd rfl (bad q2)
            have skip : ∀ (g2 : G) (H4 : Hp), Rep C (S.add L) g2 σ2 H4 → Mov m (S.add L) H2 H4 → compF g' (if g2.length = gg.length then compL tg c e vs (ds.drop (i + 1)) acc (backG gg g2 vs) else none) = R →
                ∃ gg acc', CW C m S L H1 σ gg acc' H4 ∧ compF g' (compL tg c e vs (ds.drop (i + 1)) acc' gg) = R := fun g2 H4 r5 m5 q2 => by
              by_cases hz : g2.length = gg.length
              · rw [if_pos hz] at q2
                have hv5 : H4 L = some (.lst vacc) := by
                  cases m with
                  | true => exact m5 L _ hv nM
                  | false => exact (show Same H2 H4 from m5) L _ hv
                exact ⟨_, _, ⟨w.rep.backed r5 m5.stp hp hw hz, ⟨vacc, hv5, tv2.stp m5.stp⟩, w.mv.trans (mov_add m5)⟩, q2⟩
              · rw [if_neg hz] at q2
                exact absurd rfl (bad q2)
            unfold compT at q
            cases c with
            | none =>
              unfold tC? tYes
              exact iteT (elt g1 H3 r4 (.of sm) q)
            | some f =>
              refine ⟨S.add L, g1, r4, ?_⟩
              simp only [testC] at q
              cases e2 : f g1 with
              | none => rw [e2] at q; exact absurd rfl (bad q)
              | some z =>
                rw [e2] at q
                cases z with
                | ex x g3 => exact absurd rfl (bad q)
                | ok n b g2 =>
                  simp only at q
                  cases eb : truth b with
                  | none => rw [eb] at q; exact absurd rfl (bad q)
                  | some k =>
                    rw [eb] at q
                    refine ⟨k, eb, fun H4 r5 m5 => ?_⟩
                    have m6 : Mov m (S.add L) H2 H4 := (Mov.of sm).trans m5
                    cases k with
                    | true => exact iteT (elt g2 H4 r5 m6 q)
                    | false => exact iteF (skip g2 H4 r5 m6 q)
        · rw [if_neg hp] at q
          exact absurd rfl (bad q)
      · left
        have ei : i = ds.length := by omega
        subst ei
        refine ⟨wk.st _ _ H2 sp (Nat.le_refl _), ?_⟩
        rw [List.drop_length] at q
        obtain ⟨vacc, hv, tv2⟩ := w.lst
        unfold compL compF at q
        simp only at q
        by_cases hs : shape gg = shape g'
        · rw [if_pos hs] at q
          rw [← q] at h
          exact h (.ref L) H2 (r1.less w.rep hs) w.mv ⟨.lst hv nS (tv2.stp (stp_sub fun a ha => .inl ha)), fun _ => ⟨L, rfl, hL, vacc, hv, tv2⟩⟩ fun _ p hp => by cases hp; exact w.rep
        · rw [if_neg hs] at q
          rw [← q] at h
          exact h.elim
end
end TL
set_option Elab.async false
set_option linter.all false
set_option maxRecDepth 100000
set_option maxHeartbeats 4000000
namespace TL
open PySem PySem.Spec PyProof.Rows L2

section
variable {X : Cx} {C : Cxt} {E : XK} {m : Bool}
theorem e_comp {elt target iter : Expr} {ifs : List Expr} {scope : Scope} {own : List (Str × Nat)} {pos : Pos} {it : MA} {gt : TG} {tg : D → G → Option G} {c : Option MF} {e : MF} {o : List Nat} (hc : X.calm = true) (hN : X.N.Nodup)
    (ok : BlkOk X.N X.env.scope scope own) (l : LG C gt tg o) (ho : ∀ j ∈ o, j ∈ own.map (·.2)) (hi : PI X target iter (ti C E m it))
    (hg : ∀ (s : Shared) (H : Hp) (Ca : Addr) (cl : List (Str × Addr)) (fp : List Addr), PG (X.blk s H scope (compEnvC scope cl Ca X.env) fp) target gt)
    (ht : ∀ (s : Shared) (H : Hp) (Ca : Addr) (cl : List (Str × Addr)) (fp : List Addr), PTs (X.blk s H scope (compEnvC scope cl Ca X.env) fp) ifs (tC? C E0 m c))
    (he : ∀ (s : Shared) (H : Hp) (Ca : Addr) (cl : List (Str × Addr)) (fp : List Addr), PE (X.blk s H scope (compEnvC scope cl Ca X.env) fp) elt (tv C E0 m e)) (hs : ∀ x, foldedSetIterable iter X.env x = pure x := by intro _; rfl) :
    PE X (.ListComp elt [⟨target, iter, ifs, 0⟩] scope pos) (tv C E m (mComp it tg c e (own.map (·.2)))) := PE.imp (pe_lc hc hN hi ok hg ht he hs) fun _ _ _ => tv_comp l ho
theorem c_setComp {i : Nat} {y : Str} {py : Pos} {elt target iter : Expr} {ifs : List Expr} {scope : Scope} {own : List (Str × Nat)} {pos spos : Pos} {it : MA} {gt : TG} {tg : D → G → Option G} {c : Option MF} {e : MF} {o : List Nat} (hc : X.calm = true) (hN : X.N.Nodup)
    (hy : X.N[i]? = some y) (hyl : X.env.scope.names.lookup y = some .local) (hsw : swapsWith (.ListComp elt [⟨target, iter, ifs, 0⟩] scope pos) (some (.Name y py)) spos.line X.env = pure true)
    (ok : BlkOk X.N X.env.scope scope own) (l : LG C gt tg o) (ho : ∀ j ∈ o, j ∈ own.map (·.2)) (hi : PI X target iter (ti C E true it))
    (hg : ∀ (s : Shared) (H : Hp) (Ca : Addr) (cl : List (Str × Addr)) (fp : List Addr), PG (X.blk s H scope (compEnvC scope cl Ca X.env) fp) target gt)
    (ht : ∀ (s : Shared) (H : Hp) (Ca : Addr) (cl : List (Str × Addr)) (fp : List Addr), PTs (X.blk s H scope (compEnvC scope cl Ca X.env) fp) ifs (tC? C E0 true c))
    (he : ∀ (s : Shared) (H : Hp) (Ca : Addr) (cl : List (Str × Addr)) (fp : List Addr), PE (X.blk s H scope (compEnvC scope cl Ca X.env) fp) elt (tv C E0 true e)) (hs : ∀ x, foldedSetIterable iter X.env x = pure x := by intro _; rfl) :
    PS X (.Assign [.Name y py] (.ListComp elt [⟨target, iter, ifs, 0⟩] scope pos) spos) (tAsg (tv C E true (mComp it tg c e (own.map (·.2)))) (gName i)) :=
  PS.imp (ps_setLc hc hN hy hyl hsw hi ok hg ht he hs) fun Z σ H h => tv_comp l ho h
theorem c_none : PTs X [] (tC? C E m none) := pts_nil
theorem c_some {t : Expr} {f : MF} (h : PT X t (tb C E m f)) : PTs X [t] (tC? C E m (some f)) := pts_one h
end

def argsG (as : List SD) (N : Nat) : G := as ++ List.replicate (N - as.length) .no
def finD : Option Rt → Option Rt
  | some (.nx g) => some (.rt false .non g)
  | some (.rt n d g) => some (.rt n d g)
  | some (.ex c g) => some (.ex c g)
  | _ => none
def entryS (S0 : Addr → Prop) (io : Nat → Option Addr) (h : ∀ i a, io i = some a → S0 a) : AS := ⟨S0, fun a => ∃ i, io i = some a, fun a z => by
  obtain ⟨i, e⟩ := z
  exact h i a e⟩
def EndP (C : Cxt) (H : Hp) (Q : VK) (E : XK) : Option Rt → Prop
  | some (.rt n d g') => ∀ v σ' S' H', Rep C S' g' σ' H' → Val C.K C.S0 H H' n v d → (n = true → ∀ p, v = .ref p → S' p) → Q v H'
  | some (.ex c g') => ∀ cv σ' S' H', C.mg c = some cv → Rep C S' g' σ' H' → E cv none H'
  | _ => False
/-- THE PROMISE of a def whose body is the function F over N slots -/
def spD (K : PySem.W.Frag) (mg : Str → Option Value) (np N : Nat) (F : MS) : Sp := fun vs H Q E => vs.length = np ∧ ∃ (S0 : Addr → Prop) (io : Nat → Option Addr) (as : List SD) (hio : ∀ i a, io i = some a → S0 a),
  Rep ⟨K, mg, S0, H, io⟩ (entryS S0 io hio) as (vs.map some) H ∧ EndP ⟨K, mg, S0, H, io⟩ H Q E (finD (F (argsG as N)))
theorem rep_start {C : Cxt} {S : AS} {as : G} {vs : List V} {N : List Str} {H : Hp} (r : Rep C S as (vs.map some) H) : Rep C S (argsG as N.length) (L2.start N vs) H := by
  have hl : as.length = vs.length := by rw [← r.len, List.length_map]
  unfold argsG L2.start
  have lt : ∀ (i : Nat) (z : SD), z ≠ .no → (as ++ List.replicate (N.length - as.length) .no)[i]? = some z → as[i]? = some z ∧ (vs.map some ++ List.replicate (N.length - vs.length) none)[i]? = (vs.map some)[i]? := fun i z hz e => by
    by_cases q : i < as.length
    · rw [List.getElem?_append_left q] at e
      exact ⟨e, List.getElem?_append_left (by rw [List.length_map, ← hl]; exact q)⟩
    · rw [List.getElem?_append_right (by omega), List.getElem?_replicate] at e
      split at e
      · exact absurd (Option.some.inj e).symm hz
      · cases e
  refine ⟨by rw [List.length_append, List.length_append, List.length_replicate, List.length_replicate, List.length_map, hl], fun i d q => ?_, fun i d q => ?_, fun i d q => ?_, fun i a q => ?_, fun i j d e a h1 h2 q1 q2 => ?_, r.dom, r.sub, r.s0, r.i0, r.fr⟩
  · obtain ⟨q, w⟩ := lt i _ (by intro z; cases z) q
    obtain ⟨v, h1, h2⟩ := r.im i d q
    exact ⟨v, by rw [w]; exact h1, h2⟩
  · obtain ⟨q, w⟩ := lt i _ (by intro z; cases z) q
    obtain ⟨v, h1, h2⟩ := r.mu i d q
    exact ⟨v, by rw [w]; exact h1, h2⟩
  · obtain ⟨q, w⟩ := lt i _ (by intro z; cases z) q
    obtain ⟨v, h1, h2⟩ := r.io i d q
    exact ⟨v, by rw [w]; exact h1, h2⟩
  · obtain ⟨d, q⟩ := r.iob i a q
    exact ⟨d, by rw [List.getElem?_append_left (List.getElem?_eq_some_iff.mp q).1]; exact q⟩
  · have k : ∀ (x : Nat) (y : D), ((as ++ List.replicate (N.length - as.length) .no)[x]? = some (.mu y) ∨ (as ++ List.replicate (N.length - as.length) .no)[x]? = some (.io y)) → (as[x]? = some (.mu y) ∨ as[x]? = some (.io y)) ∧ (vs.map some ++ List.replicate (N.length - vs.length) none)[x]? = (vs.map some)[x]? := fun x y h => by
      rcases h with h | h
      · obtain ⟨q, w⟩ := lt x _ (by intro z; cases z) h; exact ⟨.inl q, w⟩
      · obtain ⟨q, w⟩ := lt x _ (by intro z; cases z) h; exact ⟨.inr q, w⟩
    obtain ⟨k1, w1⟩ := k i d h1
    obtain ⟨k2, w2⟩ := k j e h2
    rw [w1] at q1
    rw [w2] at q2
    exact r.sep i j d e a k1 k2 q1 q2
section
variable {P : Program} {w : World} {K : PySem.W.Frag} {mg : Str → Option Value} {base : Heap}
theorem fnD {x qual : Str} {st : Stmt} {f : Addr} {fd : FuncData} {N ps : List Str} {k : Nat} {F : MS} (Fu : Fun K x qual st f fd) (sc : FnScope N ps (defScope st))
    (hbody : ∀ (cdv : Value) (A : Around) (outer : List Env) (s : Shared) (H : Hp) (E : XK) (S0 : Addr → Prop) (io : Nat → Option Addr), Room k (A.deeper (envOfC qual (defScope st) s.heap.objs.size f cdv)) →
      PSs (cxOf (L2.CX P w) P w K mg base N qual (defScope st) f cdv A outer s H E) (defBody st) (ts ⟨K, mg, S0, H, io⟩ E F)) : FnOk P w K mg base (L2.CX P w) (k + 1) f fd ps (spD K mg ps.length N.length F) := by
  refine Fu.okX sc (fun vs H Q E h => h.1) fun cdv A outer s H vs Q E hr h => ?_
  obtain ⟨hl, S0, io, as, hio, rp, q⟩ := h
  refine ⟨_, hbody cdv A outer s H E S0 io hr, entryS S0 io hio, argsG as N.length, rep_start rp, ?_⟩
  cases e : F (argsG as N.length) with
  | none => rw [e] at q; exact q
  | some z =>
    rw [e] at q
    cases z with
    | nx g' => exact fun σ' S' H' r' sp => q .non σ' S' H' r' (.flat .non) fun z => by cases z
    | bk g' => exact q.elim
    | ct g' => exact q.elim
    | rt n d g' => exact fun v σ' S' H' r' vl x => q v σ' S' H' r' vl x
    | ex c g' => exact q
end

/-- a def's answer for its arguments -/
def callM (F : MS) (N : Nat) (ds : List D) : Option Rt := finD (F (argsG (ds.map .im) N))
def mCall (F : MS) (N : Nat) (fs : MA) : MF := aThen fs fun ds g => match callM F N ds with
  | some (.rt n d _) => some (.ok n d g)
  | some (.ex c _) => some (.ex c g)
  | _ => none
section
variable {X : Cx} {C : Cxt} {E : XK} {m : Bool} {σ : L2.St} {H : Hp} {Q : VK} {F : MS} {N np : Nat} {fs : MA}
theorem getL {vs : List V} {ds : List D} {i : Nat} {d : D} (h : (ds.map SD.im)[i]? = some (.im d)) : ds[i]? = some d := by
  rw [List.getElem?_map] at h
  cases e : ds[i]? with
  | none => rw [e] at h; cases h
  | some z => rw [e] at h; cases h; rfl
theorem noMutL {ds : List D} {i : Nat} {d : D} : (ds.map SD.im)[i]? ≠ some (.mu d) ∧ (ds.map SD.im)[i]? ≠ some (.io d) := by
  rw [List.getElem?_map]
  cases e : ds[i]? with
  | none => exact ⟨(fun z => nomatch z), (fun z => nomatch z)⟩
  | some z => exact ⟨(fun z => nomatch z), (fun z => nomatch z)⟩
/-- the callee's state, where nothing is lent -/
theorem rep_callee {S : AS} {g : G} {vs : List V} {ds : List D} (r : Rep C S g σ H) (t : TrL C.K S H vs ds) : Rep ⟨C.K, C.mg, S.s, H, fun _ => none⟩ (entryS S.s (fun _ => none) fun _ _ z => nomatch z) (ds.map .im) (vs.map some) H where
  len := by rw [List.length_map, List.length_map, t.length]
  im := fun i d q => by
    obtain ⟨v, h1, h2⟩ := t.get (getL (vs := vs) q)
    exact ⟨v, by rw [List.getElem?_map, h1]; rfl, h2⟩
  mu := fun i d q => absurd q noMutL.1
  io := fun i d q => absurd q noMutL.2
  iob := fun i a q => by cases q
  sep := fun i j d e a h1 h2 q1 q2 => by
    rcases h1 with h1 | h1
    · exact absurd h1 noMutL.1
    · exact absurd h1 noMutL.2
  dom := r.dom
  sub := fun a h => h
  s0 := r.dom
  i0 := fun i a q => by cases q
  fr := fun b o e _ => e
theorem tv_call (hn : ∀ ds g g', fs g = some (.ok ds g') → ds.length = np) (h : tv C E m (mCall F N fs) σ H Q) : tCall (spD C.K C.mg np N F) [] E (ta C E m fs) σ H Q := by
  obtain ⟨S, g, rp, h⟩ := h
  refine ⟨S, g, rp, ?_⟩
  unfold mCall aThen at h
  cases e : fs g with
  | none => rw [e] at h; exact h
  | some z =>
    rw [e] at h
    cases z with
    | ex c g' => exact h
    | ok ds g' =>
      intro vs H1 r1 m1 t1
      have q : ReP C E m S σ H1 Q _ := ReP.later h m1 r1.dom
      refine ⟨by rw [List.append_nil, t1.length]; exact hn ds g g' e, S.s, fun _ => none, ds.map .im, (fun _ _ z => nomatch z), by rw [List.append_nil]; exact rep_callee r1 t1, ?_⟩
      simp only at q
      show EndP _ H1 Q E (callM F N ds)
      have back : ∀ {S' : AS} {g2 : G} {σ' : L2.St} {H' : Hp}, Rep ⟨C.K, C.mg, S.s, H1, fun _ => none⟩ S' g2 σ' H' → Same H1 H' := fun {S' g2 σ' H'} r' b o e => r'.fr b o e fun _ z => nomatch z
      cases ec : callM F N ds with
      | none => rw [ec] at q; exact q
      | some z =>
        rw [ec] at q
        cases z with
        | rt n d g2 =>
          intro v σ' S' H' r' vl x
          have sm := back r'
          exact q.done r1 sm vl
        | ex c g2 =>
          intro cv σ' S' H' hm r'
          exact q cv H' hm (r1.grow (back r'))
        | nx g2 => exact q.elim
        | bk g2 => exact q.elim
        | ct g2 => exact q.elim
/-- the first argument is a slot's own or lent object -/
def io0 (g : G) : Option D := match g with
  | .io d :: _ => some d
  | _ => none
theorem io0_at {g : G} {d : D} (h : io0 g = some d) : g[0]? = some (.io d) := by
  unfold io0 at h
  split at h
  · cases h; rfl
  · cases h
def mCallIo (j : Nat) (F : MS) (N : Nat) (fs : MA) : MF := fun g => match mutOf g j with
  | some _ => aThen fs (fun ds g => match mutOf g j with
    | some dj => match finD (F (argsG (.io dj :: ds.map .im) N)) with
      | some (.rt n d g') => match io0 g' with
        | some d' => match putMut j d' g with
          | some g2 => some (.ok n d g2)
          | none => none
        | none => none
      | some (.ex c g') => match io0 g' with
        | some d' => match putMut j d' g with
          | some g2 => some (.ex c g2)
          | none => none
        | none => none
      | _ => none
    | none => none) g
  | none => none
def ioA (a : Addr) : Nat → Option Addr
  | 0 => some a
  | _ + 1 => none
theorem ioA_eq {a b : Addr} {i : Nat} (h : ioA a i = some b) : i = 0 ∧ b = a := by
  cases i with
  | zero => cases h; exact ⟨rfl, rfl⟩
  | succ i => cases h
theorem rep_callIo {S : AS} {g : G} {vs : List V} {ds : List D} {a : Addr} {dj : D} (r : Rep C S g σ H) (t : TrL C.K S H vs ds) (hS : S a) (mo : MuO C.K S H a dj) (hio : ∀ i b, ioA a i = some b → S b) :
    Rep ⟨C.K, C.mg, S.s, H, ioA a⟩ (entryS S.s (ioA a) hio) (.io dj :: ds.map .im) ((V.ref a :: vs).map some) H where
  len := by rw [List.length_map, List.length_cons, List.length_cons, List.length_map, t.length]
  im := fun i d q => by
    cases i with
    | zero => cases q
    | succ i =>
      obtain ⟨v, h1, h2⟩ := t.get (getL (vs := vs) q)
      exact ⟨v, by show (vs.map some)[i]? = _; rw [List.getElem?_map, h1]; rfl, h2⟩
  mu := fun i d q => by
    cases i with
    | zero => cases q
    | succ i => exact absurd q noMutL.1
  io := fun i d q => by
    cases i with
    | zero => cases q; exact ⟨a, rfl, ⟨0, rfl⟩, rfl, mo⟩
    | succ i => exact absurd q noMutL.2
  iob := fun i b q => by
    obtain ⟨rfl, rfl⟩ := ioA_eq q
    exact ⟨dj, rfl⟩
  sep := fun i l d e b h1 h2 q1 q2 => by
    have z : ∀ (x : Nat) (y : D), ((SD.io dj :: ds.map .im)[x]? = some (.mu y) ∨ (SD.io dj :: ds.map .im)[x]? = some (.io y)) → x = 0 := fun x y h => by
      cases x with
      | zero => rfl
      | succ x =>
        rcases h with h | h
        · exact absurd h noMutL.1
        · exact absurd h noMutL.2
    rw [z i d h1, z l e h2]
  dom := r.dom
  sub := fun a h => h
  s0 := r.dom
  i0 := hio
  fr := fun b o e _ => e
theorem tv_callIo {j : Nat} (hn : ∀ ds g g', fs g = some (.ok ds g') → ds.length + 1 = np) (h : tv C E true (mCallIo j F N fs) σ H Q) : tCall (spD C.K C.mg np N F) [] E (tCons (tVar j) (ta C E true fs)) σ H Q := by
  obtain ⟨S, g, rp, h⟩ := h
  unfold mCallIo at h
  cases e0 : mutOf g j with
  | none => rw [e0] at h; exact h.elim
  | some d0 =>
    rw [e0] at h
    obtain ⟨a, h1, h2, h3⟩ := rp.there e0
    refine ⟨.ref a, h1, S, g, rp, ?_⟩
    unfold aThen at h
    simp only at h
    cases e : fs g with
    | none => rw [e] at h; exact h
    | some z =>
      rw [e] at h
      cases z with
      | ex c g' => exact h
      | ok ds g' =>
        intro vs H1 r1 m1 t1
        have q : ReP C E true S σ H1 Q _ := ReP.later h m1 r1.dom
        simp only at q
        cases e2 : mutOf g' j with
        | none => rw [e2] at q; exact q.elim
        | some dj =>
          rw [e2] at q
          simp only at q
          obtain ⟨a', k1, k2, k3⟩ := r1.there e2
          rw [h1] at k1
          cases k1
          have hio : ∀ i b, ioA a i = some b → S b := fun i b e => by rw [(ioA_eq e).2]; exact k2
          refine ⟨by rw [List.append_nil, List.length_cons, t1.length]; exact hn ds g g' e, S.s, ioA a, .io dj :: ds.map .im, hio, by rw [List.append_nil]; exact rep_callIo r1 t1 k2 k3 hio, ?_⟩
          have back : ∀ {S' : AS} {g2 : G} {σ' : L2.St} {H' : Hp}, Rep ⟨C.K, C.mg, S.s, H1, ioA a⟩ S' g2 σ' H' → ∀ d', io0 g2 = some d' → (∀ b o, b ≠ a → H1 b = some o → H' b = some o) ∧ MuO C.K S' H' a d' := fun {S' g2 σ' H'} r' d' hd => by
            refine ⟨fun b o hb ho => r'.fr b o ho fun i z => hb (ioA_eq z).2, ?_⟩
            obtain ⟨b, x1, x2, x3, x4⟩ := r'.io 0 d' (io0_at hd)
            cases x3
            exact x4
          cases ec : finD (F (argsG (.io dj :: ds.map .im) N)) with
          | none => rw [ec] at q; exact q
          | some z =>
            rw [ec] at q
            cases z with
            | nx g2 => exact q.elim
            | bk g2 => exact q.elim
            | ct g2 => exact q.elim
            | rt n d g2 =>
              intro v σ' S' H' r' vl x
              simp only at q
              cases ei : io0 g2 with
              | none => rw [ei] at q; exact q.elim
              | some d' =>
                rw [ei] at q
                simp only at q
                cases ep : putMut j d' g' with
                | none => rw [ep] at q; exact q.elim
                | some g3 =>
                  rw [ep] at q
                  obtain ⟨st, mo⟩ := back r' d' ei
                  obtain ⟨r3, mv3⟩ := r1.mutTo e2 h1 st (mo.stp (stp_sub r'.sub) rfl) ep
                  refine q v H' r3 mv3 vl fun hnw p hv => ?_
                  obtain ⟨p', ev, hp, mp⟩ := vl.2 hnw
                  rw [hv] at ev
                  cases ev
                  cases ho : H' p with
                  | none => exact absurd ho mp.there
                  | some o =>
                    have r4 := r1.growNew (same_new hp (o := o)) hp (by rw [upd_same]; exact fun z => nomatch z)
                    have hpa : a ≠ p := fun z => by subst z; exact k3.there hp
                    refine (r4.mutTo e2 h1 (fun b u hb hq => ?_) (mo.stp (stp_sub fun b hb => hb.elim (r'.sub b) fun z => z ▸ x hnw p hv) rfl) ep).1
                    by_cases z : b = p
                    · subst z
                      rw [upd_same] at hq
                      cases hq
                      exact ho
                    · rw [upd_ne z] at hq
                      exact st b u hb hq
            | ex c g2 =>
              intro cv σ' S' H' hm r'
              simp only at q
              cases ei : io0 g2 with
              | none => rw [ei] at q; exact q.elim
              | some d' =>
                rw [ei] at q
                simp only at q
                cases ep : putMut j d' g' with
                | none => rw [ep] at q; exact q.elim
                | some g3 =>
                  rw [ep] at q
                  obtain ⟨st, mo⟩ := back r' d' ei
                  exact q cv H' hm (r1.mutTo e2 h1 st (mo.stp (stp_sub r'.sub) rfl) ep).1
/-- how many arguments are written -/
theorem an_nil : ∀ ds g g', aNil g = some (.ok ds g') → ds.length = 0 := fun ds g g' h => by cases h; rfl
theorem an_cons {f : MF} {n : Nat} (h : ∀ ds g g', fs g = some (.ok ds g') → ds.length = n) : ∀ ds g g', aCons f fs g = some (.ok ds g') → ds.length = n + 1 := fun ds g g' e => by
  unfold aCons at e
  split at e
  · cases e
  · cases e
  · split at e
    · cases e
    · cases e
    · rename_i h2
      cases e
      rw [List.length_cons, h _ _ _ h2]
variable {k : Nat} {f : Addr} {fd : FuncData} {ps : List Str} {x nm : Str} {p pos pn : Pos} {e : Expr} {es : List Expr} {CXt : CXT}
theorem e_call (G : FnOk X.prog X.w X.K X.mg X.base CXt k f fd ps (spD C.K C.mg np N F)) (hr : Room k X.A) (hg : Gl X x) (hm : X.mg x = some (.ref f)) (hk : PySem.W.keepIn X.K (.ref f) = true) (hb : Binds X.K fd ps []) (hx : Passes CXt X E)
    (hn : ∀ ds g g', fs g = some (.ok ds g') → ds.length = np) (ha : PA X (e :: es) (ta C E m fs)) (hdb : (x == ("__debug__" : Str)) = false := by decide) (he : starEach (e :: es) X.env = (false, eval e X.env) :: starEach es X.env := by rfl) (hpl : (backTo pos (starEach es X.env)).any (·.1) = false := by rfl) :
    PE X (.Call (.Name x p) (e :: es) [] pos) (tv C E m (mCall F N fs)) := PE.imp (pe_call G hr hg hm hk hb .nil hx ha hdb he hpl) fun _ _ _ => tv_call hn
theorem e_callIo {j : Nat} (G : FnOk X.prog X.w X.K X.mg X.base CXt k f fd ps (spD C.K C.mg np N F)) (hr : Room k X.A) (hg : Gl X x) (hm : X.mg x = some (.ref f)) (hk : PySem.W.keepIn X.K (.ref f) = true) (hb : Binds X.K fd ps []) (hx : Passes CXt X E)
    (hn : ∀ ds g g', fs g = some (.ok ds g') → ds.length + 1 = np) (hv : PE X (.Name nm pn) (tVar j)) (ha : PA X es (ta C E true fs)) (hdb : (x == ("__debug__" : Str)) = false := by decide) (he : starEach ((.Name nm pn) :: es) X.env = (false, eval (.Name nm pn) X.env) :: starEach es X.env := by rfl) (hpl : (backTo pos (starEach es X.env)).any (·.1) = false := by rfl) :
    PE X (.Call (.Name x p) (.Name nm pn :: es) [] pos) (tv C E true (mCallIo j F N fs)) := PE.imp (pe_call G hr hg hm hk hb .nil hx (pa_cons hv ha he) hdb he hpl) fun _ _ _ => tv_callIo hn

def sRaise (c : Str) : MS := fun g => some (.ex c g)
theorem s_raise {st : Stmt} {c : Str} {cv : Value} (hm : C.mg c = some cv) (h : PS X st (fun _ _ H => E cv none H)) : PS X st (ts C E (sRaise c)) := PS.imp h fun Z σ H h => by
  obtain ⟨S, g, r, h⟩ := h
  exact h cv σ S H hm r
end
end TL
set_option Elab.async false
set_option linter.all false
set_option maxRecDepth 100000
set_option maxHeartbeats 4000000
namespace TL
open PySem PySem.Spec PyProof.Rows L2

def mChain (o o' : D → D → Option (Bool × D)) (f1 f2 f3 : MF) : MF := andThen f1 fun _ d => andThen f2 fun _ e g => match o d e with
  | some (_, .bl true) => andThen f3 (fun _ c g => match o' e c with
    | some (n, z) => some (.ok n z g)
    | none => none) g
  | some (_, .bl false) => some (.ok false (.bl false) g)
  | _ => none
section
variable {X : Cx} {C : Cxt} {E : XK} {m : Bool} {σ : L2.St} {H : Hp} {Q : VK} {a b c : Expr} {pos : Pos} {f1 f2 f3 f : MF} {r r' : R2} {o o' : D → D → Option (Bool × D)}
theorem re_then {S : AS} {g : G} {k : Bool → D → MF} {R : VK} (h : ReP C E m S σ H Q (andThen f k g)) (hk : ∀ g n d v H1, Rep C S g σ H1 → Mov m S H H1 → Val C.K S H H1 n v d → ReP C E m S σ H1 Q (k n d g) → R v H1) : ReP C E m S σ H R (f g) := by
  unfold andThen at h
  cases e : f g with
  | none => rw [e] at h; exact h
  | some z =>
    rw [e] at h
    cases z with
    | ok n d g' => exact fun v H' a b c _ => hk g' n d v H' a b c (ReP.later h b a.dom)
    | ex c g' => exact h
theorem tv_chain (l : L2r C.K r o) (l' : L2r C.K r' o') (h : tv C E m (mChain o o' f1 f2 f3) σ H Q) : tChain r r' (tv C E m f1) (tv C E m f2) (tv C E m f3) σ H Q := by
  refine tv_then h fun S g n d v H1 rp mv vl q => ⟨S, g, rp, re_then (q.later mv rp.dom) fun g2 n2 e u H2 rp2 mv2 vl2 q2 => ?_⟩
  cases eo : o d e with
  | none => simp only [eo] at q2; exact q2.elim
  | some z =>
    obtain ⟨n3, z⟩ := z
    refine l S H2 v u d e n3 z _ rp2.dom (Tr.stp mv2.stp d v vl.1) vl2.1 eo fun w H3 sm vl3 => ?_
    cases z with
    | bl k =>
      cases vl3.1
      refine ⟨k, rfl, ?_⟩
      have rp3 := rp2.grow sm
      cases k with
      | false =>
        simp only [eo] at q2
        exact iteF (q2.done rp2 sm (.flat (.bl false)))
      | true =>
        simp only [eo] at q2
        have q3 := ReP.later q2 (Mov.of sm) rp3.dom
        refine iteT ⟨S, g2, rp3, re_then q3 fun g4 n4 x y H4 rp4 mv4 vl4 q4 => ?_⟩
        cases eo' : o' e x with
        | none => simp only [eo'] at q4; exact q4.elim
        | some z =>
          obtain ⟨n5, z⟩ := z
          simp only [eo'] at q4
          exact l' S H4 u y e x n5 z Q rp4.dom (Tr.stp ((Mov.of (m := m) (S := S) sm).trans mv4).stp e u vl2.1) vl4.1 eo' fun v' H' sm' vl' => q4.done rp4 sm' vl'
    | _ => simp only [eo] at q2; exact q2.elim
theorem e_chain {op op' : CmpOp} (ho : OpR X (compareOp op) r) (ho' : OpR X (compareOp op') r') (l : L2r C.K r o) (l' : L2r C.K r' o') (ha : PE X a (tv C E m f1)) (hb : PE X b (tv C E m f2)) (hc : PE X c (tv C E m f3))
    (hm : lastMarks [op, op'] [b, c] = false := by with_unfolding_all rfl) : PE X (.Compare a [op, op'] [b, c] pos) (tv C E m (mChain o o' f1 f2 f3)) := PE.imp (pe_chain ho ho' ha hb hc hm) fun _ _ _ => tv_chain l l'
/-- a comparison as a test, an own list within -/
theorem t_cmpF {op : CmpOp} (i : Nat) (ho : OpR X (compareOp op) r) (l : L2r C.K r o) (ha : PE X a (tv C E false f1)) (hb : PE X b (tv C E false f2)) (hm : behindInMarks op b = false := by with_unfolding_all rfl) : PT X (.Compare a [op] [b] pos) (tb C E m (mBool (mFrz i (mBin o f1 f2)))) :=
  PT.imp (pt_cmpR ho ha hb hm) fun _ _ _ h => tv_bin l (tv_frz (tb_bool h))
end

def appD : D → List D → Option (D × D)
  | .lst ds, [d] => if ds.length < sizeLine then some (.non, .lst (ds ++ [d])) else none
  | _, _ => none
def popD : D → List D → Option (D × D)
  | .lst ds, [] => match ds[ds.length - 1]? with
    | some d => some (d, .lst ds.dropLast)
    | none => none
  | _, _ => none
def popAtD : D → List D → Option (D × D)
  | .lst ds, [.int i] => if -(2 ^ 63) ≤ i ∧ i < 2 ^ 63 then match seqIndex? i ds.length with
    | some k => match ds[k]? with
      | some d => some (d, .lst (ds.eraseIdx k))
      | none => none
    | none => none
    else none
  | _, _ => none
def insD : D → List D → Option (D × D)
  | .lst ds, [.int i, d] => if ds.length < sizeLine ∧ 0 ≤ i ∧ i < 2 ^ 63 then some (.non, .lst (ds.take i.toNat ++ [d] ++ ds.drop i.toNat)) else none
  | _, _ => none
def setD : D → D → D → Option D
  | .lst ds, .int i, d => match ixN ds.length i with
    | some j => some (.lst (ds.set j d))
    | none => none
  | _, _, _ => none
section
variable {K : PySem.W.Frag} {X : Cx}
theorem mo_upd {S : Addr → Prop} {H : Hp} {a : Addr} {xs : List V} {ds : List D} (hS : S a) (t : TrL K S H xs ds) : (∀ b, b ≠ a → upd H a (.lst xs) b = H b) ∧ MuO K S (upd H a (.lst xs)) a (.lst ds) :=
  ⟨fun b hb => upd_ne hb, xs, upd_same, t.stp (stp_mut hS)⟩
theorem TrL.dropLast {S : Addr → Prop} {H : Hp} {vs : List V} {ds : List D} (t : TrL K S H vs ds) : TrL K S H vs.dropLast ds.dropLast := by
  rw [List.dropLast_eq_take, List.dropLast_eq_take, t.length]
  exact t.take _
theorem l_app : LMut K rAppend appD := fun S H a d vs ds res d' Q dm hS mo t ho k => by
  unfold appD at ho
  split at ho
  · split at ho
    · rename_i hz
      cases ho
      obtain ⟨v, rfl, h⟩ := trl1 t
      obtain ⟨xs, h1, h2⟩ := mo
      obtain ⟨k1, k2⟩ := mo_upd hS (h2.append (.one h))
      exact ⟨_, _, _, rfl, rfl, h1, by rw [h2.length]; exact hz, k .non _ k1 k2 .non⟩
    · cases ho
  · cases ho
theorem l_set : LSet K rSetL setD := fun S H a d i v di dv d' Q dm hS mo ti tv ho k => by
  unfold setD at ho
  split at ho
  · split at ho
    · rename_i j hj
      cases ho
      cases ti
      obtain ⟨xs, h1, h2⟩ := mo
      obtain ⟨k1, k2⟩ := mo_upd hS (TrL.set tv j h2)
      exact ⟨_, xs, _, j, rfl, rfl, h1, by rw [h2.length]; exact hj, k _ k1 k2⟩
    · cases ho
  · cases ho
end

def Kn (P : Program) (w : World) (K : PySem.W.Frag) (mg : Str → Option Value) (base : Heap) (x : Str) (k np N : Nat) (F : MS) : Prop :=
  ∃ (f : Addr) (fd : FuncData) (ps : List Str), FnOk P w K mg base (L2.CX P w) k f fd ps (spD K mg np N F) ∧ mg x = some (.ref f) ∧ PySem.W.keepIn K (.ref f) = true ∧ Binds K fd ps []
section
variable {X : Cx} {C : Cxt} {E : XK} {m : Bool} {F : MS} {N np k : Nat} {fs : MA} {x nm : Str} {p pos pn : Pos} {e : Expr} {es : List Expr}
theorem e_callK (h : Kn X.prog X.w X.K X.mg X.base x k np N F) (hr : Room k X.A) (hx : Passes (L2.CX X.prog X.w) X E) (hn : ∀ ds g g', fs g = some (.ok ds g') → ds.length = np) (ha : PA X (e :: es) (ta C E m fs)) (hg : Gl X x := by rfl) (hK : C.K = X.K := by rfl) (hM : C.mg = X.mg := by rfl)
    (hdb : (x == ("__debug__" : Str)) = false := by decide) (he : starEach (e :: es) X.env = (false, eval e X.env) :: starEach es X.env := by rfl) (hpl : (backTo pos (starEach es X.env)).any (·.1) = false := by rfl) :
    PE X (.Call (.Name x p) (e :: es) [] pos) (tv C E m (mCall F N fs)) := by
  obtain ⟨f, fd, ps, G, h1, h2, h3⟩ := h
  exact e_call (by rw [hK, hM]; exact G) hr hg h1 h2 h3 hx hn ha hdb he hpl
theorem e_callKio {j : Nat} (h : Kn X.prog X.w X.K X.mg X.base x k np N F) (hr : Room k X.A) (hx : Passes (L2.CX X.prog X.w) X E) (hn : ∀ ds g g', fs g = some (.ok ds g') → ds.length + 1 = np) (hv : PE X (.Name nm pn) (tVar j)) (ha : PA X es (ta C E true fs)) (hg : Gl X x := by rfl) (hK : C.K = X.K := by rfl) (hM : C.mg = X.mg := by rfl)
    (hdb : (x == ("__debug__" : Str)) = false := by decide) (he : starEach ((.Name nm pn) :: es) X.env = (false, eval (.Name nm pn) X.env) :: starEach es X.env := by rfl) (hpl : (backTo pos (starEach es X.env)).any (·.1) = false := by rfl) :
    PE X (.Call (.Name x p) (.Name nm pn :: es) [] pos) (tv C E true (mCallIo j F N fs)) := by
  obtain ⟨f, fd, ps, G, h1, h2, h3⟩ := h
  exact e_callIo (by rw [hK, hM]; exact G) hr hg h1 h2 h3 hx hn hv ha hdb he hpl
end
end TL
set_option Elab.async false
set_option linter.all false
set_option maxRecDepth 100000
set_option maxHeartbeats 4000000
namespace TL
open PySem PySem.Spec PyProof.Rows L2

def spLaw (K : PySem.W.Frag) : Sp := fun vs H Q _ => ∃ (a : Addr) (ns : List Int), vs = [.ref a] ∧ ns.length ≤ 63 ∧ Only H ∧ SqL K H a (ns.map V.int) ∧ ∀ H', Q (.bl true) H'
theorem sp_law {K : PySem.W.Frag} {mg : Str → Option Value} {N : Nat} {F : MS} (pure : ∀ ns : List Int, ns.length ≤ 63 → ∃ n g', finD (F (argsG [.im (.ro ns)] N)) = some (.rt n (.bl true) g')) :
    ∀ vs H Q E, spLaw K vs H Q E → spD K mg 1 N F vs H Q E := fun vs H Q E h => by
  obtain ⟨a, ns, rfl, hl, hO, hS, q⟩ := h
  have t : Tr K (fun _ => False) H (.ref a) (.ro ns) := by
    rcases hS with (h | ⟨o, h⟩) | h
    · rcases hO a with z | ⟨o, xs, z⟩
      · rw [z] at h; cases h
      · rw [z] at h; cases h
    · exact .ro h id
    · exact .roK fun H' => .inr h
  refine ⟨rfl, fun _ => False, fun _ => none, [.im (.ro ns)], (fun _ _ z => by cases z), ⟨rfl, fun i d e => ?_, fun i d e => ?_, fun i d e => ?_, (fun i a z => by cases z), fun i j d e a h1 h2 => ?_, fun a z => z.elim, fun a z => z, fun a z => z.elim, (fun i a z => by cases z), fun b o e _ => e⟩, ?_⟩
  · cases i with
    | zero => cases e; exact ⟨_, rfl, t⟩
    | succ i => cases e
  · cases i with
    | zero => cases e
    | succ i => cases e
  · cases i with
    | zero => cases e
    | succ i => cases e
  · cases i with
    | zero => rcases h1 with h1 | h1 <;> cases h1
    | succ i => rcases h1 with h1 | h1 <;> cases h1
  · obtain ⟨n, g', e⟩ := pure ns hl
    rw [e]
    intro v σ' S' H' r' vl x
    cases vl.1
    exact q H'
end TL
set_option Elab.async false
set_option linter.all false
set_option maxRecDepth 100000
set_option maxHeartbeats 4000000
namespace TL
open PySem PySem.Spec PyProof.Rows L2
/-- z[::-1] -/
def revS (z : Str) : Str := ⟨z.cps.toList.reverse.toArray⟩
section
variable {X : Cx} {e : Expr}
end
def revA : D → Option (Bool × D)
  | .lst ds => some (true, .lst ds.reverse)
  | .str z => if z.length ≤ sizeLine then some (false, .str (revS z)) else none
  | _ => none
section
variable {X : Cx} {C : Cxt} {E : XK} {m : Bool} {pos : Pos} {e : Expr} {f : MF}
end
end TL
set_option Elab.async false
set_option linter.all false
set_option maxRecDepth 100000
set_option maxHeartbeats 4000000
namespace TL
open PySem PySem.Spec PyProof.Rows L2
def listA : List D → Option (Bool × D)
  | [.str z] => if z.length ≤ sizeLine then some (true, .lst (signs z)) else none
  | ds => listD ds
abbrev rListS (K : PySem.W.Frag) : List V → Hp → VK → Prop := fun xs H Q => rListA K xs H Q ∨ ∃ z, xs = [.str z] ∧ z.length ≤ sizeLine ∧ ∀ l, H l = none → Q (.ref l) (upd H l (.lst (z.cps.toList.map fun c => V.str ⟨#[c]⟩)))
section
variable {K : PySem.W.Frag} {X : Cx}
theorem vals_signs {x : Str} {acc : Array Value} (h : ItemsOf (SignAt x) acc x.cps.size) : Vals (x.cps.toList.map fun c => V.str ⟨#[c]⟩) acc.toList := by
  refine vals_of_at (by rw [List.length_map, Array.length_toList, Array.length_toList, h.1]) fun j v u h1 h2 => ?_
  obtain ⟨c, t, e1, e2⟩ := h.2 j u (by rw [← Array.getElem?_toList]; exact h2)
  rw [List.getElem?_map, Array.getElem?_toList, e1] at h1
  cases h1
  exact ⟨t, e2⟩
theorem call_listS (hc : X.calm = true) : CallR X (.type "list") (fun xs H Q => ∃ z, xs = [.str z] ∧ z.length ≤ sizeLine ∧ ∀ l, H l = none → Q (.ref l) (upd H l (.lst (z.cps.toList.map fun c => V.str ⟨#[c]⟩)))) := by
  intro pins s σ H xs us Q I r h
  obtain ⟨z, rfl, hz, q⟩ := h
  obtain ⟨u, rfl, t, rfl⟩ := vals1 r
  refine PySem.call_list_str (hn := hz) (I.ok.hd hc) z t fun h' tk acc' c' kp e hi => ?_
  refine ⟨.ref s.heap.objs.size, _, I.laid (t' := tk) (o := .lst (z.cps.toList.map fun c => V.str ⟨#[c]⟩)) kp (Nat.le_refl _) ⟨by rw [List.length_map, Array.length_toList]; exact hz, acc'.toList, c', vals_signs hi, by rw [Array.toArray_toList]; exact e⟩, rfl, q _ (I.hok.fresh (Nat.le_refl _))⟩
theorem c_listA (hc : X.calm = true) : CallR X (.type "list") (rListS X.K) := c_list.or (call_listS hc)
theorem l_listA : LC K (rListS K) listA := fun S H xs ds n z Q dm t ho k => by
  unfold listA at ho
  split at ho
  · rename_i x
    obtain ⟨v, rfl, h⟩ := trl1 t
    cases h
    split at ho
    · rename_i hz
      refine .inr ⟨x, rfl, hz, finL dm ho ?_ k⟩
      have h := TrL.ofStrs (K := K) S H (x.cps.toList.map fun c => (⟨#[c]⟩ : Str))
      rw [List.map_map, List.map_map] at h
      exact h
    · cases ho
  · exact .inl (l_list S H _ _ n z Q dm t ho k)
end
section
variable {X : Cx} {C : Cxt} {E : XK} {m : Bool} {σ : L2.St} {H : Hp} {e : Expr} {f : MF}
end
section
variable {f : MF} {g : G} {P : Bool → D → G → Prop} {i : Nat}
end
end TL
set_option Elab.async false
set_option linter.all false
set_option maxRecDepth 100000
set_option maxHeartbeats 4000000
namespace TL
open PySem PySem.Spec PyProof.Rows L2
/-- what is walked: a text, or a list of n items at l -/
inductive Sv where
  | tx (x : Str)
  | ls (l : Addr) (n : Nat)
def Sv.size : Sv → Nat
  | .tx x => x.cps.size
  | .ls _ n => n
def Sv.St : Sv → Addr → Nat → Heap → Prop
  | .tx x, I, i, h => ∃ t, h.IsStrIter I (strIterType x) x t i
  | .ls l _, I, i, h => h.IsListIter I l i ∧ l ≠ I
def Sv.good (K : PySem.W.Frag) : Sv → Hp → Prop
  | .tx _, _ => True
  | .ls l n, H => ∃ xs, SqL K H l xs ∧ xs.length = n
def Sv.at (K : PySem.W.Frag) : Sv → Hp → Nat → V → Prop
  | .tx x, _, i, v => ∃ c, x.cps[i]? = some c ∧ v = .str ⟨#[c]⟩
  | .ls l n, H, i, v => ∀ xs, SqL K H l xs → xs[i]? = some v
def Sv.fp : Sv → Addr → List Addr
  | .tx _, I => [I]
  | .ls l _, I => [I, l]
def Sv.add : Sv → List Addr
  | .tx _ => []
  | .ls l _ => [l]
theorem Sv.mem {v : Sv} {I : Addr} : I ∈ v.fp I := by cases v <;> simp [Sv.fp]
theorem Sv.St.obj {v : Sv} {I : Addr} {i : Nat} {h : Heap} (s : v.St I i h) : ∃ o, h.get? I = some o ∧ ∀ z, o.data ≠ .cell z := by
  cases v with
  | tx x =>
    obtain ⟨t, o, e, _, d⟩ := s
    exact ⟨o, e, fun z q => by rw [d] at q; cases q⟩
  | ls l n =>
    obtain ⟨⟨o, e, _, d⟩, _⟩ := s
    exact ⟨o, e, fun z q => by rw [d] at q; cases q⟩
theorem Sv.St.keep {v : Sv} {I : Addr} {i : Nat} {h h' : Heap} (s : v.St I i h) (k : ∀ o, h.get? I = some o → h'.get? I = some o) : v.St I i h' := by
  cases v with
  | tx x =>
    obtain ⟨t, o, e, r⟩ := s
    exact ⟨t, o, k o e, r⟩
  | ls l n => exact ⟨s.1.at fun o e => k o e, s.2⟩
/-- at a turn: what the library's draws say of it -/
theorem Sv.draws {X : Cx} {pins : List (Addr × Obj)} {σ : L2.St} {H : Hp} {s : Shared} {v : Sv} {I : Addr} {i : Nat} {A : Around} (J : L2.Inv X pins σ H s) (hh : A.handled = none) (st : v.St I i s.heap) (g : v.good X.K H) :
    ∃ P St', Draws X.prog X.w A I (v.fp I) v.size P St' ∧ St' i s.heap ∧ (∀ j h, St' j h → v.St I j h) ∧ ∀ j u, P j u → ∃ z, v.at X.K H j z ∧ RelV z u := by
  cases v with
  | tx x =>
    obtain ⟨t, st⟩ := st
    exact ⟨_, _, Draws.text hh I x t, st, fun j h q => ⟨t, q⟩, fun j u ⟨c, t, hc, hu⟩ => ⟨.str ⟨#[c]⟩, ⟨c, hc, rfl⟩, t, hu⟩⟩
  | ls l n =>
    obtain ⟨xs, hq, hn⟩ := g
    obtain ⟨its, rv, p, _⟩ := J.list hq
    have hl := rv.length
    have D := Draws.list (prog := X.prog) (w := X.w) hh I l st.2 its.toArray
    rw [show its.toArray.size = n by rw [List.size_toArray, ← hl, hn]] at D
    refine ⟨_, _, D, ⟨st.1, p.isList⟩, fun j h q => ⟨q.1, st.2⟩, fun j u hu => ?_⟩
    have hu : its[j]? = some u := by simpa using hu
    have hj := (List.getElem?_eq_some_iff.mp hu).1
    obtain ⟨u', hu', ru⟩ := rv.get (List.getElem?_eq_getElem (show j < xs.length by omega))
    rw [hu] at hu'
    cases hu'
    exact ⟨_, fun ys hy => by rw [J.list_inj hy hq]; exact List.getElem?_eq_getElem (by omega), ru⟩
/-- pairs of both -/
def ItzS (K : PySem.W.Frag) (v1 v2 : Sv) : It :=
  ⟨fun i H => (v1.good K H ∧ v2.good K H) ∧ i < v1.size ∧ i < v2.size, fun i H v H' => ∃ T x y, v = .ref T ∧ H T = none ∧ H' = upd H T (.tup [x, y]) ∧ v1.at K H i x ∧ v2.at K H i y,
    fun i H => (v1.good K H ∧ v2.good K H) ∧ (v1.size ≤ i ∨ v2.size ≤ i)⟩
theorem turn_zipS {P : Program} {w : World} {K : PySem.W.Frag} {elts : List Expr} {kk : Nat} {tpos : Pos} {v1 v2 : Sv} {z TI TO i1 i2 : Addr} (D : ZipSep2 z TI TO i1 i2 (v1.fp i1) (v2.fp i2)) :
    Turn P w K (.Tuple elts kk tpos) (ItzS K v1 v2) [z, TI, TO, i1, i2] z (fun i h => IsZip h z TI TO .none ∧ IsTupOf2 h TI (.ref i1) (.ref i2) ∧ (∃ x y, IsTupOf2 h TO x y) ∧ v1.St i1 i h ∧ v2.St i2 i h ∧ i ≤ v1.size ∧ i ≤ v2.size) where
  mem := List.mem_cons_self ..
  obj := fun i h st c hc => by
    obtain ⟨hz, hTI, ⟨x, y, hTO⟩, h1, h2, _, _⟩ := st
    have e' : c = z ∨ c = TI ∨ c = TO ∨ c = i1 ∨ c = i2 := by simpa using hc
    rcases e' with q | q | q | q | q <;> subst q
    · exact ⟨_, hz, fun v q => nomatch q⟩
    · exact ⟨_, hTI, fun v q => nomatch q⟩
    · exact ⟨_, hTO, fun v q => nomatch q⟩
    · exact h1.obj
    · exact h2.obj
  keep := fun i h h' st k => by
    obtain ⟨hz, hTI, ⟨x, y, hTO⟩, h1, h2, l1, l2⟩ := st
    exact ⟨k z (by simp) _ hz, k TI (by simp) _ hTI, ⟨x, y, k TO (by simp) _ hTO⟩, h1.keep fun o q => k i1 (by simp) o q, h2.keep fun o q => k i2 (by simp) o q, l1, l2⟩
  item := by
    intro X hP hw hK hc i pins s σ H E I hf st hg
    subst hP hw hK
    obtain ⟨hz, hTI, ⟨x0, y0, hTO⟩, h1, h2, _, _⟩ := st
    obtain ⟨⟨g1, g2⟩, hi1, hi2⟩ := hg
    have hh : X.A.in1.handled = none := I.ok.hd hc
    obtain ⟨P1, S1, D1, s1, b1, r1⟩ := v1.draws I hh h1 g1
    obtain ⟨P2, S2, D2, s2, b2, r2⟩ := v2.draws I hh h2 g2
    have hzl : z < s.heap.objs.size := Heap.lt_size hz
    obtain ⟨o1, e1, _⟩ := h1.obj
    obtain ⟨o2, e2, _⟩ := h2.obj
    refine wpAny_pyNext_zipD2_item D D1 D2 hz hTI hTO s1 s2 hi1 hi2 fun u u2 h' tk hu hu2 z' TO' h1' h2' hT hsz hk => ?_
    obtain ⟨x, hx, ru⟩ := r1 i u hu
    obtain ⟨y, hy, ru2⟩ := r2 i u2 hu2
    refine ⟨_, rfl, wpAny_letOwnedTupleGo_zip (s := { s with heap := h', toks := tk }) z' fun h'' z'' sb => ?_⟩
    have hT2 := (sb.2 _ (Nat.ne_of_gt hzl)).trans hT
    have zi1 : i1 ≠ z := fun q => D.zf1 (by rw [← q]; exact Sv.mem)
    have zi2 : i2 ≠ z := fun q => D.zf2 (by rw [← q]; exact Sv.mem)
    have new : ObjOk X.prog X.w (upd H s.heap.objs.size (.tup [x, y])) h'' s.heap.objs.size (.tup [x, y]) :=
      ⟨by show 2 ≤ sizeLine; decide, [u, u2], .cons ru (.cons ru2 .nil), ⟨_, hT2, rfl, _, rfl⟩⟩
    have I1 : L2.Inv X pins σ (upd H s.heap.objs.size (.tup [x, y])) { s with heap := h'', toks := tk } :=
      I.turnedNew (t' := tk) (ch := [z, TI, TO, i1, i2]) (fun c o hb q => (sb.2 c (fun q' => hb (by simp [q']))).trans (hk c o (fun q' => hb (by simp [q'])) (fun q' => hb (by simp [q'])) (fun q' => hb (by simp [q'])) (fun q' => hb (by simp [q'])) q)) hf (Nat.le_refl _) new
    refine ⟨.ref s.heap.objs.size, _, I1, rfl, ⟨_, x, y, rfl, I.hok.fresh (Nat.le_refl _), rfl, hx, hy⟩, ⟨z'', ?_, ⟨u, u2, ?_⟩, ?_, ?_, hi1, hi2⟩, fun c hcm => ?_⟩
    · exact (sb.2 _ D.TIz).trans (hk _ _ D.TIz D.TITO D.TIi1 D.TIi2 hTI)
    · exact (sb.2 _ D.TOz).trans TO'
    · exact (b1 _ _ h1').keep fun o q => (sb.2 _ zi1).trans q
    · exact (b2 _ _ h2').keep fun o q => (sb.2 _ zi2).trans q
    · have hlt : c < s.heap.objs.size := by
        have e' : c = z ∨ c = TI ∨ c = TO ∨ c = i1 ∨ c = i2 := by simpa using hcm
        rcases e' with q | q | q | q | q <;> subst q
        · exact hzl
        · exact Heap.lt_size hTI
        · exact Heap.lt_size hTO
        · exact Heap.lt_size e1
        · exact Heap.lt_size e2
      rw [upd_ne (Nat.ne_of_lt hlt)]
      exact (hf c hcm).1
  done := by
    intro X hP hw hK hc i pins s σ H E I hf st hg
    subst hP hw hK
    obtain ⟨hz, hTI, ⟨x0, y0, hTO⟩, h1, h2, l1, l2⟩ := st
    obtain ⟨⟨g1, g2⟩, hend⟩ := hg
    have hh : X.A.in1.handled = none := I.ok.hd hc
    obtain ⟨P1, S1, D1, s1, b1, r1⟩ := v1.draws I hh h1 g1
    obtain ⟨P2, S2, D2, s2, b2, r2⟩ := v2.draws I hh h2 g2
    refine wpAny_pyNext_zipD2_end D D1 D2 hz hTI hTO s1 s2 l1 l2 (by omega) fun h' tk hk => ⟨rfl, I.turnedL (t' := tk) (ch := [z, TI, TO, i1, i2]) (fun c o hb q =>
      hk c o (fun q' => hb (by simp [q'])) (fun q' => hb (by simp [q'])) (fun q' => hb (by simp [q'])) (fun q' => hb (by simp [q'])) q) hf⟩
  self := fun A i s Q E st h => wpAny_pyIter_zip st.1 h
/-- a value that may be walked so -/
inductive SvV (K : PySem.W.Frag) (H : Hp) : V → Sv → Prop where
  | tx (x : Str) : SvV K H (.str x) (.tx x)
  | ls {a : Addr} {xs : List V} (h : SqL K H a xs) : SvV K H (.ref a) (.ls a xs.length)
theorem Sv.fp_eq (v : Sv) (I : Addr) : v.fp I = I :: v.add := by cases v <;> rfl
theorem SvV.begins {X : Cx} {pins : List (Addr × Obj)} {σ : L2.St} {H : Hp} {s : Shared} {x : V} {u : Value} {v : Sv} (h : SvV X.K H x v) (I : L2.Inv X pins σ H s) (r : RelV x u) :
    ∃ o Hh, Begins u o Hh ∧ Hh s.heap ∧ (∀ b ∈ v.add, b < s.heap.objs.size) ∧ ∀ h' J, s.heap.objs.size ≤ J → h'.get? J = some o → v.St J 0 h' := by
  cases h with
  | tx x =>
    obtain ⟨t, rfl⟩ := r
    exact ⟨_, _, begins_text x t, trivial, (fun b hb => by cases hb), fun h' J _ e => ⟨t, _, e, rfl, rfl⟩⟩
  | ls hq =>
    cases r
    obtain ⟨its, rv, p, _⟩ := I.list hq
    exact ⟨_, _, begins_list _ its.toArray, p.isList, (fun b hb => by rw [List.mem_singleton.mp hb]; exact p.lt), fun h' J hJ e => ⟨⟨_, e, rfl, rfl⟩, Nat.ne_of_lt (Nat.lt_of_lt_of_le p.lt hJ)⟩⟩
theorem SvV.ok {K : PySem.W.Frag} {H : Hp} {x : V} {v : Sv} (h : SvV K H x v) : True := trivial
def iZipS (K : PySem.W.Frag) (ta : TA) : TI := fun σ H R => ta σ H fun vs H1 => ∃ x y v1 v2, vs = [x, y] ∧ SvV K H1 x v1 ∧ SvV K H1 y v2 ∧ R (ItzS K v1 v2) H1
theorem pi_zipS {X : Cx} {e e2 : Expr} {ta : TA} {p pos tpos : Pos} {elts : List Expr} {kk : Nat} (hg : Gl X "zip") (hm : X.mg "zip" = none) (ha : PA X [e, e2] ta)
    (hs : starEach [e, e2] X.env = (false, eval e X.env) :: starEach [e2] X.env := by rfl) (hpl : (backTo pos (starEach [e2] X.env)).any (·.1) = false := by rfl) :
    PI X (.Tuple elts kk tpos) (.Call (.Name "zip" p) [e, e2] [] pos) (iZipS X.K ta) := by
  refine ⟨fun pins s σ H R I h => ?_⟩
  refine Call_ (ld_blt I hg hm PyProof.Rows.boot_zip (PyProof.Rows.callWith_type1 (thn (ha.run pos pins s σ H _ I h) fun us s1 ⟨vs, H1, I1, r1, q1⟩ => ?_) hs hpl))
  obtain ⟨x, y, v1, v2, ex, hx, hy, q⟩ := q1
  subst ex
  obtain ⟨u, u', eu, r, r'⟩ := vals2 r1
  subst eu
  obtain ⟨o1, H1', B1, b1, a1, st1⟩ := hx.begins I1 r
  obtain ⟨o2, H2', B2, b2, a2, st2⟩ := hy.begins I1 r'
  refine zip_begins2 B1 B2 b1 b2 fun h' hz hTI hTO h1 h2 hsz hk => wpAny_pyIter_zip hz ?_
  have I2 : L2.Inv X pins σ H1 { s1 with heap := h' } := I1.kept (t' := s1.toks) hk
  have D : ZipSep2 (s1.heap.objs.size + 4) (s1.heap.objs.size + 2) (s1.heap.objs.size + 3) s1.heap.objs.size (s1.heap.objs.size + 1) (v1.fp s1.heap.objs.size) (v2.fp (s1.heap.objs.size + 1)) := by
    rw [Sv.fp_eq, Sv.fp_eq]
    exact zip_sep2 a1 a2
  refine ⟨s1.heap.objs.size + 4, [s1.heap.objs.size + 4, s1.heap.objs.size + 2, s1.heap.objs.size + 3, s1.heap.objs.size, s1.heap.objs.size + 1], _, _, H1, rfl, I2, turn_zipS D,
    ⟨hz, hTI, ⟨_, _, hTO⟩, st1 _ _ (Nat.le_refl _) h1, st2 _ _ (Nat.le_add_right _ _) h2, Nat.zero_le _, Nat.zero_le _⟩, fun c hcm => ?_, q⟩
  have e' : c = s1.heap.objs.size + 4 ∨ c = s1.heap.objs.size + 2 ∨ c = s1.heap.objs.size + 3 ∨ c = s1.heap.objs.size ∨ c = s1.heap.objs.size + 1 := by simpa using hcm
  have hle : s1.heap.objs.size ≤ c := by
    rcases e' with z | z | z | z | z <;> rw [z] <;> first | exact Nat.le_refl _ | exact Nat.le_add_right _ _
  exact I1.fpOk hle (I1.hok.fresh hle)
def ItT (x : Str) : It :=
  ⟨fun i _ => i < x.cps.size, fun i H v H' => ∃ T c, v = .ref T ∧ H T = none ∧ H' = upd H T (.tup [.int (i : Nat), .str ⟨#[c]⟩]) ∧ x.cps[i]? = some c, fun i _ => x.cps.size ≤ i⟩
theorem turn_enumT {P : Program} {w : World} {K : PySem.W.Frag} {elts : List Expr} {kk : Nat} {tpos : Pos} (x : Str) (t : Tok) (e it : Addr) :
    Turn P w K (.Tuple elts kk tpos) (ItT x) [e, it] e (fun i h => (∃ old, IsEnum h e it ((i : Nat) : Int) old) ∧ h.IsStrIter it (strIterType x) x t i ∧ e ≠ it ∧ i ≤ x.cps.size) where
  mem := List.mem_cons_self ..
  obj := fun i h st b hb => by
    obtain ⟨⟨old, he⟩, ⟨o, ho, hc, hd⟩, _⟩ := st
    have e' : b = e ∨ b = it := by simpa using hb
    rcases e' with z | z <;> subst z
    · exact ⟨_, he, fun v q => nomatch q⟩
    · exact ⟨o, ho, fun v q => by rw [hd] at q; cases q⟩
  keep := fun i h h' st k => by
    obtain ⟨⟨old, he⟩, ⟨o, ho, r⟩, hne, hl⟩ := st
    exact ⟨⟨old, k e (by simp) _ he⟩, ⟨o, k it (by simp) o ho, r⟩, hne, hl⟩
  item := by
    intro X hP hw hK hc i pins s σ H E I hf st hg
    subst hP hw hK
    obtain ⟨⟨old, he⟩, hit, hne, _⟩ := st
    have hh : X.A.in1.handled = none := I.ok.hd hc
    have D := Draws.text (prog := X.prog) (w := X.w) hh it x t
    have hel : e < s.heap.objs.size := Heap.lt_size he
    have hil : it < s.heap.objs.size := by obtain ⟨_, q, _⟩ := hit; exact Heap.lt_size q
    refine wpAny_pyNext_enum_itemC D he hit hg hne (by simpa using hne) fun u h' tk hu ho hit' hT hsz hk => ?_
    obtain ⟨c, t', hcx, rfl⟩ := hu
    refine ⟨_, rfl, wpAny_letOwnedTupleGo_enum (s := { s with heap := h', toks := tk + 1 }) ho fun h'' he' sb => ?_⟩
    have hT2 := (sb.2 _ (Nat.ne_of_gt hel)).trans hT
    have new : ObjOk X.prog X.w (upd H s.heap.objs.size (.tup [.int (i : Nat), .str ⟨#[c]⟩])) h'' s.heap.objs.size (.tup [.int (i : Nat), .str ⟨#[c]⟩]) :=
      ⟨by show 2 ≤ sizeLine; decide, [.int i tk, .str ⟨#[c]⟩ t'], .cons ⟨_, rfl⟩ (.cons ⟨_, rfl⟩ .nil), ⟨_, hT2, rfl, _, rfl⟩⟩
    have I1 : L2.Inv X pins σ (upd H s.heap.objs.size (.tup [.int (i : Nat), .str ⟨#[c]⟩])) { s with heap := h'', toks := tk + 1 } :=
      I.turnedNew (ch := [e, it]) (fun b ob hb q => (sb.2 b (fun z => hb (by simp [z]))).trans (hk b ob (fun z => hb (by simp [z])) (fun z => hb (by simp [z])) q)) hf (Nat.le_refl _) new
    refine ⟨.ref s.heap.objs.size, _, I1, rfl, ⟨_, c, rfl, I.hok.fresh (Nat.le_refl _), rfl, hcx⟩, ⟨⟨.str ⟨#[c]⟩ t', ?_⟩, ?_, hne, hg⟩, fun b hb => ?_⟩
    · have e1 : ((i + 1 : Nat) : Int) = (i : Int) + 1 := by omega
      rw [e1]
      exact he'
    · obtain ⟨o, q, r⟩ := hit'
      exact ⟨o, (sb.2 it (Ne.symm hne)).trans q, r⟩
    · have hb' : b < s.heap.objs.size := by
        have e' : b = e ∨ b = it := by simpa using hb
        rcases e' with z | z <;> subst z
        · exact hel
        · exact hil
      rw [upd_ne (Nat.ne_of_lt hb')]
      exact (hf b hb).1
  done := by
    intro X hP hw hK hc i pins s σ H E I hf st hg
    subst hP hw hK
    obtain ⟨⟨old, he⟩, hit, hne, hl⟩ := st
    have hh : X.A.in1.handled = none := I.ok.hd hc
    have ei : i = x.cps.size := Nat.le_antisymm hl hg
    subst ei
    have D := Draws.text (prog := X.prog) (w := X.w) hh it x t
    obtain ⟨f0, f1, f2, f3, f4, f5⟩ := hf it (by simp)
    exact wpAny_pyNext_enum_endD D he hit fun h' eb => ⟨rfl, I.turned (t' := s.toks) (fun b o hb q => eb b o hb q) f0 f1 f3 f4 f5⟩
  self := fun A i s Q E st h => let ⟨⟨_, he⟩, _⟩ := st; wpAny_pyIter_enum he h
def iEnumX (K : PySem.W.Frag) (ta : TA) : TI := fun σ H R => ta σ H fun vs H1 => (∃ a xs, vs = [.ref a] ∧ SqL K H1 a xs ∧ R (Ite K a) H1) ∨ ∃ x, vs = [.str x] ∧ R (ItT x) H1
theorem pi_enumX {X : Cx} {e : Expr} {ta : TA} {p pos tpos : Pos} {elts : List Expr} {kk : Nat} (hg : Gl X "enumerate") (hm : X.mg "enumerate" = none) (ha : PA X [e] ta) (hs : starEach [e] X.env = [(false, eval e X.env)] := by rfl) :
    PI X (.Tuple elts kk tpos) (.Call (.Name "enumerate" p) [e] [] pos) (iEnumX X.K ta) := by
  refine ⟨fun pins s σ H R I h => ?_⟩
  refine Call_ (ld_blt I hg hm PyProof.Rows.boot_enumerate (PyProof.Rows.callWith_type1 (thn (ha.run pos pins s σ H _ I h) fun us s1 ⟨vs, H1, I1, r1, q1⟩ => ?_) hs rfl))
  have fresh2 : ∀ c, c ∈ [s1.heap.objs.size + 1, s1.heap.objs.size] → FpOk X pins H1 c := fun c hcm => by
    have e' : c = s1.heap.objs.size + 1 ∨ c = s1.heap.objs.size := by simpa using hcm
    have hle : s1.heap.objs.size ≤ c := by omega
    exact I1.fpOk hle (I1.hok.fresh hle)
  rcases q1 with ⟨a, xs, ex, hq, q⟩ | ⟨x, ex, q⟩
  · subst ex
    obtain ⟨u, rfl, r⟩ := vals1 r1
    cases r
    obtain ⟨its, rv, p', hz⟩ := I1.list hq
    refine call_enumerate_list p'.isList fun h' he hit hsz hk => wpAny_pyIter_enum he ?_
    have I2 : L2.Inv X pins σ H1 { s1 with heap := h' } := I1.kept (t' := s1.toks) hk
    exact ⟨s1.heap.objs.size + 1, [s1.heap.objs.size + 1, s1.heap.objs.size], _, _, H1, rfl, I2, turn_enum a (s1.heap.objs.size + 1) s1.heap.objs.size, ⟨⟨.none, he⟩, hit, Nat.succ_ne_self _⟩, fresh2, q⟩
  · subst ex
    obtain ⟨u, rfl, t, rfl⟩ := vals1 r1
    refine call_enumerate_str fun h' he hit hsz hk => wpAny_pyIter_enum he ?_
    have I2 : L2.Inv X pins σ H1 { s1 with heap := h' } := I1.kept (t' := s1.toks) hk
    exact ⟨s1.heap.objs.size + 1, [s1.heap.objs.size + 1, s1.heap.objs.size], _, _, H1, rfl, I2, turn_enumT x t (s1.heap.objs.size + 1) s1.heap.objs.size, ⟨⟨.none, he⟩, hit, Nat.succ_ne_self _, Nat.zero_le _⟩, fresh2, q⟩
def srcD : D → Option (List D)
  | .lst ds => some ds
  | .str s => some (signs s)
  | _ => none
def zipX : List D → Option (List D)
  | [a, b] => match srcD a, srcD b with
    | some xs, some ys => some (zipL xs ys)
    | _, _ => none
  | _ => none
def enumX : List D → Option (List D)
  | [a] => match srcD a with
    | some xs => some (enumL 0 xs)
    | none => none
  | _ => none
/-- a tree that is walked: its source, its items at each later heap -/
theorem src_of {K : PySem.W.Frag} {S : Addr → Prop} {H : Hp} {v : V} {d : D} {ds : List D} (t : Tr K S H v d) (h : srcD d = some ds) :
    ∃ sv, SvV K H v sv ∧ sv.size = ds.length ∧ ∀ S1 H1, Stp S H S1 H1 → sv.good K H1 ∧ ∀ i x z, sv.at K H1 i x → ds[i]? = some z → Tr K S1 H1 x z := by
  cases d with
  | lst es =>
    cases h
    obtain ⟨a, xs, rfl, h1, h2, h3⟩ := lst_at t
    refine ⟨.ls a xs.length, .ls (SqL.of h1), h3.length, fun S1 H1 sp => ⟨⟨xs, SqL.of (sp a _ h1 h2).1, rfl⟩, fun i x z hx hz => ?_⟩⟩
    obtain ⟨w, k1, k2⟩ := h3.get hz
    rw [hx xs (SqL.of (sp a _ h1 h2).1)] at k1
    cases k1
    exact k2.stp sp
  | str x =>
    cases h
    cases t
    refine ⟨.tx x, .tx x, by show _ = (signs x).length; unfold signs; rw [List.length_map, Array.length_toList]; rfl, fun S1 H1 sp => ⟨trivial, fun i v z hx hz => ?_⟩⟩
    obtain ⟨c, hc, rfl⟩ := hx
    unfold signs at hz
    rw [List.getElem?_map, Array.getElem?_toList, hc] at hz
    cases hz
    exact .str _
  | _ => cases h
theorem wk_zipS {K : PySem.W.Frag} {S : Addr → Prop} {H : Hp} {v1 v2 : Sv} {ds es : List D} (n1 : v1.size = ds.length) (n2 : v2.size = es.length)
    (h1 : ∀ S1 H1, Stp S H S1 H1 → v1.good K H1 ∧ ∀ i x z, v1.at K H1 i x → ds[i]? = some z → Tr K S1 H1 x z) (h2 : ∀ S1 H1, Stp S H S1 H1 → v2.good K H1 ∧ ∀ i x z, v2.at K H1 i x → es[i]? = some z → Tr K S1 H1 x z) :
    Wk K S H (ItzS K v1 v2) (zipL ds es) where
  go := fun i S1 H1 sp hi => by
    rw [zipL_len] at hi
    exact ⟨⟨(h1 _ _ sp).1, (h2 _ _ sp).1⟩, by omega, by omega⟩
  yl := fun i S1 H1 x H2 d sp dm hd y => by
    obtain ⟨z, z', k1, k2, rfl⟩ := zipL_get ds es i d hd
    obtain ⟨T, w, w', rfl, nT, rfl, y, y'⟩ := y
    exact ⟨same_new nT, new_tup dm nT (.cons ((h1 _ _ sp).2 i w z y k1) (.one ((h2 _ _ sp).2 i w' z' y' k2)))⟩
  st := fun i S1 H1 sp hi => by
    rw [zipL_len] at hi
    exact ⟨⟨(h1 _ _ sp).1, (h2 _ _ sp).1⟩, by omega⟩
theorem wk_enumT {K : PySem.W.Frag} {S : Addr → Prop} {H : Hp} {x : Str} : Wk K S H (ItT x) (enumL 0 (signs x)) where
  go := fun i S1 H1 sp hi => by
    rw [enumL_len] at hi
    unfold signs at hi
    rw [List.length_map, Array.length_toList] at hi
    exact hi
  yl := fun i S1 H1 v H2 d sp dm hd y => by
    obtain ⟨z, h1, rfl⟩ := enumL_get (signs x) 0 i d hd
    obtain ⟨T, c, rfl, nT, rfl, hc⟩ := y
    unfold signs at h1
    rw [List.getElem?_map, Array.getElem?_toList, hc] at h1
    cases h1
    refine ⟨same_new nT, new_tup dm nT (.cons ?_ (.one (.str _)))⟩
    rw [Nat.zero_add]
    exact .int _
  st := fun i S1 H1 sp hi => by
    rw [enumL_len] at hi
    unfold signs at hi
    rw [List.length_map, Array.length_toList] at hi
    exact hi
section
variable {X : Cx} {C : Cxt} {E : XK} {m : Bool} {p pos : Pos} {e e' : Expr}
theorem i_enumX {elts : List Expr} {kk : Nat} {tpos : Pos} {fs : MA} (hK : X.K = C.K) (hg : Gl X "enumerate") (hm : X.mg "enumerate" = none) (ha : PA X [e] (ta C E m fs)) (hs : starEach [e] X.env = [(false, eval e X.env)] := by rfl) : PI X (.Tuple elts kk tpos) (.Call (.Name "enumerate" p) [e] [] pos) (ti C E m (iOf enumX fs)) :=
  PI.imp (pi_enumX hg hm ha hs) fun σ H R h => ti_of h fun S g ds vs l H1 rp t er k => by
    unfold enumX at er
    split at er
    · rename_i a
      obtain ⟨v, rfl, t'⟩ := trl1 t
      cases a with
      | lst es =>
        obtain ⟨a, xs, rfl, h1, h2, h3⟩ := lst_at t'
        cases er
        exact .inl ⟨a, xs, rfl, SqL.of h1, k _ (by rw [hK]; exact wk_enum h1 h2 h3)⟩
      | str x =>
        cases t'
        cases er
        exact .inr ⟨x, rfl, k _ wk_enumT⟩
      | _ => cases er
    · cases er
theorem i_zipX {elts : List Expr} {kk : Nat} {tpos : Pos} {fs : MA} (hK : X.K = C.K) (hg : Gl X "zip") (hm : X.mg "zip" = none) (ha : PA X [e, e'] (ta C E m fs)) (hs : starEach [e, e'] X.env = (false, eval e X.env) :: starEach [e'] X.env := by rfl) (hpl : (backTo pos (starEach [e'] X.env)).any (·.1) = false := by rfl) :
    PI X (.Tuple elts kk tpos) (.Call (.Name "zip" p) [e, e'] [] pos) (ti C E m (iOf zipX fs)) :=
  PI.imp (pi_zipS hg hm ha hs hpl) fun σ H R h => ti_of h fun S g ds vs l H1 rp t er k => by
    unfold zipX at er
    split at er
    · rename_i a b
      obtain ⟨v, w, rfl, t1, t2⟩ := trl2 t
      split at er
      · rename_i xs ys ex ey
        cases er
        obtain ⟨v1, s1, n1, w1⟩ := src_of t1 ex
        obtain ⟨v2, s2, n2, w2⟩ := src_of t2 ey
        rw [← hK] at s1 s2 w1 w2
        exact ⟨v, w, v1, v2, rfl, s1, s2, k _ (by rw [← hK]; exact wk_zipS n1 n2 w1 w2)⟩
      · cases er
    · cases er
end
end TL
set_option Elab.async false
set_option linter.all false
set_option maxRecDepth 100000
set_option maxHeartbeats 4000000
namespace TL
open PySem PySem.Spec PyProof.Rows L2
section
variable {K : PySem.W.Frag}
end
def compL2 (tg : D → G → Option G) (it1 : MA) (tg1 : D → G → Option G) (e : MF) (vs vs1 : List Nat) : List D → List D → G → Option (List D × G)
  | [], acc, g => some (acc, g)
  | d :: ds, acc, g => if plain? g vs = true then match tg d (wipeG g vs) with
    | none => none
    | some g1 => match it1 g1 with
      | some (.ok ds1 g2) => match compL tg1 none e vs1 ds1 acc g2 with
        | some (acc', g3) => if g3.length = g.length then compL2 tg it1 tg1 e vs vs1 ds acc' (backG g g3 vs) else none
        | none => none
      | _ => none
    else none
def mComp2 (it : MA) (tg : D → G → Option G) (it1 : MA) (tg1 : D → G → Option G) (e : MF) (vs vs1 : List Nat) : MF := fun g => match it g with
  | none => none
  | some (.ex x g') => some (.ex x g')
  | some (.ok ds g') => compF g' (compL2 tg it1 tg1 e vs vs1 ds [] g')
theorem wipe_back {σ σ2 : L2.St} {vs own : List Nat} (l4 : σ2.length = (wipe σ vs).length) (o4 : ∀ j, j ∉ own → σ2[j]? = (wipe σ vs)[j]?) (ho : ∀ j ∈ own, j ∈ vs) : wipe σ2 vs = wipe σ vs := by
  apply List.ext_getElem?
  intro j
  have l5 : σ2.length = σ.length := by rw [l4, wipe_length]
  rw [wipe_get, wipe_get, l5]
  by_cases cj : j ∈ vs ∧ j < σ.length
  · rw [if_pos cj, if_pos cj]
  · rw [if_neg cj, if_neg cj]
    by_cases jv : j ∈ vs
    · rw [List.getElem?_eq_none (by have : ¬ j < σ.length := fun z => cj ⟨jv, z⟩; omega), List.getElem?_eq_none (by have : ¬ j < σ.length := fun z => cj ⟨jv, z⟩; omega)]
    · rw [o4 j fun z => jv (ho j z), wipe_get, if_neg fun z => jv z.1]
section
variable {C : Cxt} {E : XK} {m : Bool} {it it1 : MA} {tg tg1 : D → G → Option G} {e : MF} {vs vs1 own own1 : List Nat} {gt gt1 : TG} {σ : L2.St} {H : Hp} {Q : VK}
theorem tv_comp2 (l : LG C gt tg own) (ho : ∀ j ∈ own, j ∈ vs) (l1 : LG C gt1 tg1 own1) (ho1 : ∀ j ∈ own1, j ∈ vs1) (h : tv C E m (mComp2 it tg it1 tg1 e vs vs1) σ H Q) :
    tLc2 (ti C E m it) gt tYes (ti C E0 m it1) gt1 tYes (tv C E0 m e) vs vs1 σ H Q := by
  obtain ⟨S, g, rp, h⟩ := h
  refine ⟨S, g, rp, ?_⟩
  unfold mComp2 at h
  cases e1 : it g with
  | none => rw [e1] at h; exact h
  | some z =>
    rw [e1] at h
    cases z with
    | ex x g' => exact h
    | ok ds g' =>
      intro J H1 r1 m1 wk L hL
      have h := ReP.later h m1 r1.dom
      simp only at h
      have nS : ¬ S L := r1.fresh hL
      have nM : ¬ S.m L := fun z => nS (S.sub L z)
      have n0 : C.H0 L = none := r1.fresh0 hL
      have rL : Rep C (S.add L) g' σ (upd H1 L (.lst [])) := r1.growNew (same_new hL) hL (by rw [upd_same]; exact fun z => nomatch z)
      generalize hR : compF g' (compL2 tg it1 tg1 e vs vs1 ds [] g') = R at h
      refine ⟨fun i k H2 => ∃ gg acc, CW C m S L H1 σ gg acc H2 ∧ i + k = ds.length ∧ compF g' (compL2 tg it1 tg1 e vs vs1 (ds.drop i) acc gg) = R, ⟨ds.length, g', [], ⟨rL, ⟨[], upd_same, .nil⟩, .of (same_new hL)⟩, Nat.zero_add _, hR⟩, ?_⟩
      rintro i k H2 ⟨gg, acc, w, hk, q⟩
      have sp : Stp S H1 (S.add L) H2 := fun b o hb n => ⟨(w.mv.stp b o hb n).1, fun z => z.elim n fun z => by rw [z, hL] at hb; cases hb⟩
      have bad : ∀ {o : Option (List D × G)}, compF g' o = R → o ≠ none := fun {o} hq z => by
        subst z
        rw [← hq] at h
        exact h
      by_cases hi : i < ds.length
      · right
        have ed : ds.drop i = ds[i] :: ds.drop (i + 1) := List.drop_eq_getElem_cons hi
        rw [ed] at q
        refine ⟨wk.go i _ H2 sp hi, fun H3 => ∃ gg acc, CW C m S L H1 σ gg acc H3 ∧ compF g' (compL2 tg it1 tg1 e vs vs1 (ds.drop (i + 1)) acc gg) = R, fun H3 hN => ?_, fun x H3 y => ?_⟩
        · obtain ⟨gg3, acc3, a1, a2⟩ := hN
          exact ⟨k - 1, by omega, gg3, acc3, a1, by omega, a2⟩
        obtain ⟨sm, tx⟩ := wk.yl i _ H2 x H3 ds[i] sp w.rep.dom (List.getElem?_eq_getElem hi) y
        unfold compL2 at q
        by_cases hp : plain? gg vs = true
        · rw [if_pos hp] at q
          cases et : tg ds[i] (wipeG gg vs) with
          | none => rw [et] at q; exact absurd rfl (bad q)
          | some g1 =>
            rw [et] at q
            simp only at q
            have r3 := w.rep.grow sm
            refine l _ _ g1 _ H3 x ds[i] _ (r3.wiped hp) tx et fun σ2 r4 l4 o4 => ?_
            have hw : wipe σ2 vs = wipe σ vs := wipe_back l4 o4 ho
            refine ⟨hw, ?_⟩
            unfold tYes
            refine iteT ?_
            obtain ⟨vacc, hv, tv2⟩ := w.lst
            refine ⟨S.add L, g1, r4, ?_⟩
            cases e2 : it1 g1 with
            | none => rw [e2] at q; exact absurd rfl (bad q)
            | some z =>
              rw [e2] at q
              cases z with
              | ex x g3 => exact absurd rfl (bad q)
              | ok ds1 g2 =>
                simp only at q
                cases e3 : compL tg1 none e vs1 ds1 acc g2 with
                | none => rw [e3] at q; exact absurd rfl (bad q)
                | some z =>
                  obtain ⟨accF, gF⟩ := z
                  rw [e3] at q
                  simp only at q
                  by_cases hlen : gF.length = gg.length
                  · rw [if_pos hlen] at q
                    intro J1 H4 r5 m5 wk1
                    have st4 : Stp (S.add L) H2 (S.add L) H4 := (Mov.of sm : Mov m (S.add L) H2 H3).trans m5 |>.stp
                    have hv4 : H4 L = some (.lst vacc) := by
                      have m6 : Mov m (S.add L) H2 H4 := (Mov.of sm : Mov m (S.add L) H2 H3).trans m5
                      cases m with
                      | true => exact m6 L _ hv nM
                      | false => exact (show Same H2 H4 from m6) L _ hv
                    refine ⟨fun j k H5 => ∃ g5 acc5, CW C m S L H1 σ2 g5 acc5 H5 ∧ (Stp (S.add L) H4 (S.add L) H5) ∧ j + k = ds1.length ∧ compL tg1 none e vs1 (ds1.drop j) acc5 g5 = some (accF, gF),
                      ⟨ds1.length, g2, acc, ⟨r5, ⟨vacc, hv4, tv2.stp st4⟩, w.mv.trans (mov_add ((Mov.of sm : Mov m (S.add L) H2 H3).trans m5))⟩, (fun b o hb n => ⟨hb, n⟩), Nat.zero_add _, e3⟩, ?_⟩
                    rintro j k5 H5 ⟨g5, acc5, w5, sp5, hk5, q5⟩
                    by_cases hj : j < ds1.length
                    · right
                      have ed1 : ds1.drop j = ds1[j] :: ds1.drop (j + 1) := List.drop_eq_getElem_cons hj
                      rw [ed1] at q5
                      refine ⟨wk1.go j _ H5 sp5 hj, fun H6 => ∃ g6 acc6, CW C m S L H1 σ2 g6 acc6 H6 ∧ (Stp (S.add L) H4 (S.add L) H6) ∧ compL tg1 none e vs1 (ds1.drop (j + 1)) acc6 g6 = some (accF, gF), fun H6 hN => ?_, fun x1 H6 y1 => ?_⟩
                      · obtain ⟨g6, acc6, a1, a2, a3⟩ := hN
                        exact ⟨k5 - 1, by omega, g6, acc6, a1, a2, by omega, a3⟩
                      obtain ⟨sm1, tx1⟩ := wk1.yl j _ H5 x1 H6 ds1[j] sp5 w5.rep.dom (List.getElem?_eq_getElem hj) y1
                      unfold compL at q5
                      by_cases hp1 : plain? g5 vs1 = true
                      · rw [if_pos hp1] at q5
                        cases et1 : tg1 ds1[j] (wipeG g5 vs1) with
                        | none => rw [et1] at q5; cases q5
                        | some g7 =>
                          rw [et1] at q5
                          simp only at q5
                          have r6 := w5.rep.grow sm1
                          refine l1 _ _ g7 _ H6 x1 ds1[j] _ (r6.wiped hp1) tx1 et1 fun σ3 r7 l7 o7 => ?_
                          have hw1 : wipe σ3 vs1 = wipe σ2 vs1 := wipe_back l7 o7 ho1
                          refine ⟨hw1, ?_⟩
                          refine iteT ?_
                          obtain ⟨vacc5, hv5, tv5⟩ := w5.lst
                          refine ⟨S.add L, g7, r7, ?_⟩
                          unfold compT compE at q5
                          simp only [testC, truth] at q5
                          cases e7 : e g7 with
                          | none => rw [e7] at q5; cases q5
                          | some z =>
                            rw [e7] at q5
                            cases z with
                            | ex x g8 => cases q5
                            | ok n z g8 =>
                              intro v H7 r8 m8 v8 _
                              simp only at q5
                              by_cases hz : acc5.length < sizeLine ∧ g8.length = g5.length
                              · rw [if_pos hz] at q5
                                have m9 : Mov m (S.add L) H5 H7 := (Mov.of sm1).trans m8
                                have hv7 : H7 L = some (.lst vacc5) := by
                                  cases m with
                                  | true => exact m9 L _ hv5 nM
                                  | false => exact (show Same H5 H7 from m9) L _ hv5
                                have sp9 : Stp (S.add L) H4 (S.add L) (upd H7 L (.lst (vacc5 ++ [v]))) := fun b o hb nn => by
                                  obtain ⟨a1, a2⟩ := sp5 b o hb nn
                                  obtain ⟨a3, a4⟩ := m9.stp b o a1 a2
                                  exact stp_at b o a3 a4
                                exact ⟨vacc5, hv7, by rw [tv5.length]; exact hz.1, _, _, ⟨(w5.rep.backed r8 m9.stp hp1 hw1 hz.2).side nM n0, ⟨_, upd_same, ((tv5.stp m9.stp).append (.one v8.1)).stp stp_at⟩, mov_at hL (w5.mv.trans (mov_add m9))⟩, sp9, q5⟩
                              · rw [if_neg hz] at q5
                                cases q5
                      · rw [if_neg hp1] at q5
                        cases q5
                    · left
                      have ei : j = ds1.length := by omega
                      subst ei
                      refine ⟨wk1.st _ _ H5 sp5 (Nat.le_refl _), ?_⟩
                      rw [List.drop_length] at q5
                      unfold compL at q5
                      cases q5
                      have st5 : Stp (S.add L) H2 (S.add L) H5 := fun b o hb nn => by
                        obtain ⟨a1, a2⟩ := st4 b o hb nn
                        exact sp5 b o a1 a2
                      exact ⟨_, _, ⟨w.rep.backed w5.rep st5 hp hw hlen, w5.lst, w5.mv⟩, q⟩
                  · rw [if_neg hlen] at q
                    exact absurd rfl (bad q)
        · rw [if_neg hp] at q
          exact absurd rfl (bad q)
      · left
        have ei : i = ds.length := by omega
        subst ei
        refine ⟨wk.st _ _ H2 sp (Nat.le_refl _), ?_⟩
        rw [List.drop_length] at q
        obtain ⟨vacc, hv, tv2⟩ := w.lst
        unfold compL2 compF at q
        simp only at q
        by_cases hs : shape gg = shape g'
        · rw [if_pos hs] at q
          rw [← q] at h
          exact h (.ref L) H2 (r1.less w.rep hs) w.mv ⟨.lst hv nS (tv2.stp (stp_sub fun a ha => .inl ha)), fun _ => ⟨L, rfl, hL, vacc, hv, tv2⟩⟩ fun _ p hp => by cases hp; exact w.rep
        · rw [if_neg hs] at q
          rw [← q] at h
          exact h.elim
end
section
variable {X : Cx} {C : Cxt} {E : XK} {m : Bool}
theorem e_comp2 {elt target iter target1 iter1 : Expr} {scope : Scope} {own : List (Str × Nat)} {vs1 : List Nat} {pos : Pos} {it it1 : MA} {gt gt1 : TG} {tg tg1 : D → G → Option G} {e : MF} {o o1 : List Nat} (hc : X.calm = true) (hN : X.N.Nodup)
    (ok : BlkOk X.N X.env.scope scope own) (hv : ∀ i ∈ vs1, i ∈ own.map (·.2)) (l : LG C gt tg o) (ho : ∀ j ∈ o, j ∈ own.map (·.2)) (l1 : LG C gt1 tg1 o1) (ho1 : ∀ j ∈ o1, j ∈ vs1) (hi : PI X target iter (ti C E m it))
    (hg : ∀ (s : Shared) (H : Hp) (Ca : Addr) (cl : List (Str × Addr)) (fp : List Addr), PG (X.blk s H scope (compEnvC scope cl Ca X.env) fp) target gt)
    (hi1 : ∀ (s : Shared) (H : Hp) (Ca : Addr) (cl : List (Str × Addr)) (fp : List Addr), PI (X.blk s H scope (compEnvC scope cl Ca X.env) fp) target1 iter1 (ti C E0 m it1))
    (hg1 : ∀ (s : Shared) (H : Hp) (Ca : Addr) (cl : List (Str × Addr)) (fp : List Addr), PG (X.blk s H scope (compEnvC scope cl Ca X.env) fp) target1 gt1)
    (ht : ∀ (s : Shared) (H : Hp) (Ca : Addr) (cl : List (Str × Addr)) (fp : List Addr), PTs (X.blk s H scope (compEnvC scope cl Ca X.env) fp) [] tYes)
    (he : ∀ (s : Shared) (H : Hp) (Ca : Addr) (cl : List (Str × Addr)) (fp : List Addr), PE (X.blk s H scope (compEnvC scope cl Ca X.env) fp) elt (tv C E0 m e))
    (hs : ∀ x, foldedSetIterable iter X.env x = pure x := by intro _; rfl) (hs1 : ∀ env x, foldedSetIterable iter1 env x = pure x := by intro _ _; rfl) :
    PE X (.ListComp elt [⟨target, iter, [], 0⟩, ⟨target1, iter1, [], 0⟩] scope pos) (tv C E m (mComp2 it tg it1 tg1 e (own.map (·.2)) vs1)) :=
  PE.imp (pe_lc2 hc hN hi ok hv hg ht hi1 hg1 ht he hs hs1) fun _ _ _ => tv_comp2 l ho l1 ho1
end
end TL
set_option Elab.async false
set_option linter.all false
set_option maxRecDepth 100000
set_option maxHeartbeats 4000000
namespace TL
open PySem PySem.Spec PyProof.Rows L2
def inX (d e : D) : Option Bool := match inB d e with
  | some b => some b
  | none => match py d, e with
    | some p, .lst ds => match pyL ds with
      | some ps => if SeqAt.shaped p = true ∧ SeqAt.shaped (.list ps) = true then some (ps.any fun z => PyData.eqv z p) else none
      | none => none
    | _, _ => none
def ninY (d e : D) : Option (Bool × D) := match inX d e with
  | some b => some (false, .bl (!b))
  | none => none
abbrev rNinY (K : PySem.W.Frag) : R2 := fun x y H Q => rNinA K x y H Q ∨ rNotInD K x y H Q
section
variable {K : PySem.W.Frag} {X : Cx}
theorem o_ninY {k : Nat} (hr : Room k X.A) : OpR X (compareOp .NotIn) (rNinY X.K) := o_nin.or (op_notInD (by have := hr.un; omega))
theorem inX_of {S : Addr → Prop} {H : Hp} {x y : V} {d e : D} {b : Bool} (tx : Tr K S H x d) (ty : Tr K S H y e) (h : inX d e = some b) (hn : inB d e = none) :
    ∃ p ps, Dp K H x p ∧ Dp K H y (.list ps) ∧ SeqAt.shaped p = true ∧ SeqAt.shaped (.list ps) = true ∧ (ps.any fun z => PyData.eqv z p) = b := by
  unfold inX at h
  rw [hn] at h
  simp only at h
  split at h
  · rename_i p ds hp
    split at h
    · rename_i ps hps
      split at h
      · rename_i hz
        cases h
        exact ⟨p, ps, dp_of _ _ _ tx hp, dp_of _ _ _ ty (by simp only [py, hps]), hz.1, hz.2, rfl⟩
      · cases h
    · cases h
  · cases h
theorem l_ninY : L2r K (rNinY K) ninY := fun S H x y d e n z Q dm tx ty ho k => by
  unfold ninY at ho
  split at ho
  · rename_i b hb
    cases hi : inB d e with
    | some b' =>
      have e1 : b' = b := by unfold inX at hb; rw [hi] at hb; exact Option.some.inj hb
      subst e1
      exact .inl (l_nin S H x y d e n z Q dm tx ty (by unfold ninD; rw [hi]; exact ho) k)
    | none =>
      obtain ⟨p, ps, h1, h2, h3, h4, h5⟩ := inX_of tx ty hb hi
      exact .inr ⟨p, ps, h1, h2, h3, h4, by rw [h5]; exact fin1 ho (.bl _) k⟩
  · cases ho
end
section
variable {X : Cx} {C : Cxt} {E : XK} {m : Bool} {p pos : Pos}
end
def repS (x : Str) (n : Nat) : Str := ⟨(List.replicate n x.cps.toList).flatten.toArray⟩
theorem fold_cat (x : Array Nat) : ∀ (n : Nat) (a : Array Nat), ((List.replicate n x).foldl (· ++ ·) a).toList = a.toList ++ (List.replicate n x.toList).flatten
  | 0, a => by simp
  | n + 1, a => by
    rw [List.replicate_succ, List.foldl_cons, fold_cat x n, List.replicate_succ, List.flatten_cons, Array.toList_append, List.append_assoc]
theorem repS_fold (x : Str) (n : Nat) : (⟨(List.replicate n x.cps).foldl (· ++ ·) #[]⟩ : Str) = repS x n := by
  unfold repS
  congr 1
  apply Array.toList_inj.mp
  rw [fold_cat]
  rfl
def rMulS : R2 := fun x y H Q => ∃ z n, x = .str z ∧ y = .int n ∧ 0 ≤ n ∧ n < 1000000 ∧ z.length * n.toNat ≤ sizeLine ∧ Q (.str (repS z n.toNat)) H
def mulX : D → D → Option (Bool × D)
  | .str z, .int n => if 0 ≤ n ∧ n < 1000000 ∧ z.length * n.toNat ≤ sizeLine then some (false, .str (repS z n.toNat)) else none
  | d, e => mulD d e
section
variable {K : PySem.W.Frag} {X : Cx}
theorem op_mulS : OpR X (binaryOp .Mult) rMulS := by
  intro pins s σ H x y v u Q I rx ry h
  obtain ⟨z, n, rfl, rfl, h0, h9, hz, q⟩ := h
  obtain ⟨t, rfl⟩ := rx
  obtain ⟨t', rfl⟩ := ry
  refine PySem.P.mul_str (by rw [decide_eq_false (by omega), decide_eq_false (by omega)]; rfl) (fun h1 h2 h3 => ?_) (fun h1 h2 => ?_) ?_
  · have hl : (z.length : Int) ≤ 16777216 := by
      have : 1 ≤ n.toNat := by omega
      have a : z.length * 1 ≤ z.length * n.toNat := Nat.mul_le_mul_left _ this
      unfold sizeLine at hz
      omega
    have hd : (16777216 : Int) ≤ (2 ^ 63 - 1) / n := (Int.le_ediv_iff_mul_le (by omega)).mpr (by omega)
    omega
  · show decide (z.length * n.toNat > sizeLine) = false
    exact decide_eq_false (by omega)
  · have fin : ∀ (w : Str) (t2 : Tok), w = repS z n.toNat → ∀ k, EP X pins σ Q (.str w t2) { s with toks := k } := fun w t2 e k => by
      subst e
      exact ⟨.str _, H, I.tok _, ⟨_, rfl⟩, q⟩
    split
    · rename_i h1
      have e : n.toNat = 0 := by omega
      exact ⟨by decide, fin _ _ (by rw [e]; rfl) _⟩
    · rename_i h1
      split
      · rename_i h2
        have e : z = repS z n.toNat := by
          rw [Bool.or_eq_true] at h2
          rcases h2 with h2 | h2
          · have h2 : n = 1 := eq_of_beq h2
            subst h2
            unfold repS
            show z = ⟨([z.cps.toList].flatten).toArray⟩
            simp
          · have h2 : z.cps.size = 0 := eq_of_beq h2
            have e0 : z.cps = #[] := Array.eq_empty_of_size_eq_zero h2
            have e1 : ∀ k : Nat, (List.replicate k ([] : List Nat)).flatten = [] := fun k => by simp
            unfold repS
            cases z
            simp only at e0
            subst e0
            simp
        exact fin z t e s.toks
      · refine ⟨?_, fin _ _ (repS_fold z _) _⟩
        rw [repS_fold]
        show ((List.replicate n.toNat z.cps.toList).flatten.toArray).size ≤ sizeLine
        rw [List.size_toArray, List.length_flatten, List.map_replicate, List.sum_replicate_nat, Array.length_toList, Nat.mul_comm]
        exact hz
theorem o_mulX : OpR X (binaryOp .Mult) (fun x y H Q => rMulA x y H Q ∨ rMulS x y H Q) := o_mul.or op_mulS
theorem l_mulX : L2r K (fun x y H Q => rMulA x y H Q ∨ rMulS x y H Q) mulX := fun S H x y d e n z Q dm tx ty ho k => by
  unfold mulX at ho
  split at ho
  · cases tx; cases ty
    split at ho
    · rename_i hz
      exact .inr ⟨_, _, rfl, rfl, hz.1, hz.2.1, hz.2.2, fin1 ho (.str _) k⟩
    · cases ho
  · exact .inl (l_mul S H x y _ _ n z Q dm tx ty ho k)
end
end TL
set_option Elab.async false
set_option linter.all false
set_option maxRecDepth 100000
set_option maxHeartbeats 4000000
namespace TL
open PySem PySem.Spec PyProof.Rows L2
def keyD : D → Option Key
  | .int i => some (.inl i)
  | .str s => some (.inr s)
  | _ => none
def putD (es : List (Key × D)) (k : Key) (d : D) : List (Key × D) :=
  if (es.any fun e => decide (e.1 = k)) = true then es.map (fun e => if e.1 = k then (e.1, d) else e) else es ++ [(k, d)]
def getK (es : List (Key × D)) (k : Key) : Option D := (es.find? fun e => decide (e.1 = k)).map (·.2)
def mDNew : MF := fun g => some (.ok true (.dic []) g)
section
variable {K : PySem.W.Frag} {S S' : Addr → Prop} {H H' : Hp}
theorem TrE.len : ∀ {vs : List (Key × V)} {es : List (Key × D)}, TrE K S H vs es → vs.length = es.length
  | _, _, .nil => rfl
  | _, _, .cons _ t => congrArg Nat.succ t.len
theorem TrE.any (k : Key) : ∀ {vs : List (Key × V)} {es : List (Key × D)}, TrE K S H vs es → (vs.any fun e => decide (e.1 = k)) = es.any fun e => decide (e.1 = k)
  | _, _, .nil => rfl
  | _, _, .cons _ t => by rw [List.any_cons, List.any_cons, TrE.any k t]
theorem TrE.over {k : Key} {v : V} {d : D} (h : Tr K S H v d) : ∀ {vs : List (Key × V)} {es : List (Key × D)}, TrE K S H vs es → TrE K S H (vs.map fun e => if e.1 = k then (e.1, v) else e) (es.map fun e => if e.1 = k then (e.1, d) else e)
  | _, _, .nil => .nil
  | _, _, .cons (k := k') h' t => by
    rw [List.map_cons, List.map_cons]
    by_cases e : k' = k
    · rw [if_pos e, if_pos e]; exact .cons h (TrE.over h t)
    · rw [if_neg e, if_neg e]; exact .cons h' (TrE.over h t)
theorem TrE.snoc {k : Key} {v : V} {d : D} (h : Tr K S H v d) : ∀ {vs : List (Key × V)} {es : List (Key × D)}, TrE K S H vs es → TrE K S H (vs ++ [(k, v)]) (es ++ [(k, d)])
  | _, _, .nil => .cons h .nil
  | _, _, .cons h' t => .cons h' (TrE.snoc h t)
theorem TrE.put {k : Key} {v : V} {d : D} {vs : List (Key × V)} {es : List (Key × D)} (h : Tr K S H v d) (t : TrE K S H vs es) : TrE K S H (putK vs k v) (putD es k d) := by
  unfold putK putD
  rw [t.any k]
  by_cases e : (es.any fun e => decide (e.1 = k)) = true
  · rw [if_pos e, if_pos e]; exact t.over h
  · rw [if_neg e, if_neg e]; exact t.snoc h
theorem TrE.val {k : Key} : ∀ {vs : List (Key × V)} {es : List (Key × D)}, TrE K S H vs es → (getK es k = none ∧ valV vs k = none) ∨ ∃ v d, getK es k = some d ∧ valV vs k = some v ∧ Tr K S H v d
  | _, _, .nil => .inl ⟨rfl, rfl⟩
  | _, _, .cons (k := k') (v := v) (d := d) h t => by
    by_cases e : k' = k
    · subst e
      exact .inr ⟨v, d, by simp [getK], by simp [valV], h⟩
    · rcases TrE.val (k := k) t with ⟨h1, h2⟩ | ⟨v', d', h1, h2, h3⟩
      · exact .inl ⟨by simpa [getK, e] using h1, by simpa [valV, e] using h2⟩
      · exact .inr ⟨v', d', by simpa [getK, e] using h1, by simpa [valV, e] using h2, h3⟩
end
section
variable {X : Cx} {C : Cxt} {E : XK} {m : Bool} {pos : Pos}
end
section
variable {X : Cx} {C : Cxt} {E : XK} {m : Bool} {σ : L2.St} {H : Hp} {Q : VK} {i : Nat} {fk fx : MF}
end
section
variable {K : PySem.W.Frag} {X : Cx}
theorem TrE.mem {S : Addr → Prop} {H : Hp} : ∀ {vs : List (Key × V)} {es : List (Key × D)} {p : Key × V}, TrE K S H vs es → p ∈ vs → ∃ d, (p.1, d) ∈ es ∧ Tr K S H p.2 d
  | _, _, _, .nil, h => by cases h
  | _, _, _, .cons h t, hp => by
    rcases List.mem_cons.mp hp with rfl | hp
    · exact ⟨_, List.mem_cons_self .., h⟩
    · obtain ⟨d, h1, h2⟩ := t.mem hp
      exact ⟨d, List.mem_cons_of_mem _ h1, h2⟩
end
end TL
set_option Elab.async false
set_option linter.all false
set_option maxRecDepth 100000
set_option maxHeartbeats 4000000
namespace TL
open PySem PySem.Spec PyProof.Rows L2

section
variable {X : Cx} {pins : List (Addr × Obj)} {σ : L2.St} {H : Hp} {s : Shared}
/-- an object of ours that stands in the state is tracked from here on -/
theorem Inv_track {a : Addr} {cls : Value} {oe : Obj} {vs : Array Value} (I : Inv X pins σ H s) (na : H a = none) (e : s.heap.get? a = some oe) (z : Zc cls none oe) (d : oe.data = .fields vs)
    (n0 : ∀ o, X.s_0.heap.get? a ≠ some o) (nL : a ≠ X.env.locals) (np : ∀ p ∈ X.pn ++ pins, p.1 ≠ a) : Inv X pins σ (upd H a (ExH cls a)) s where
  ok := I.ok
  os := I.os
  bare := I.bare
  base := ⟨I.base.keep, I.base.slot, fun b u q n hx => by
    have hne : b ≠ a := fun w => n0 u (w ▸ q)
    rw [upd_ne hne]
    exact I.base.free b u q n hx, I.base.there,
    fun b xs q => by have h := I.base.tups b xs q; rw [upd_ne (ne_of_none h na)]; exact h,
    fun b o u q => by have h := I.base.frzs b o u q; rw [upd_ne (ne_of_none h na)]; exact h,
    fun b ps q => by obtain ⟨m, h⟩ := I.base.tbls b ps q; exact ⟨m, by rw [upd_ne (ne_of_none h na)]; exact h⟩⟩
  loc := I.loc
  cell := I.cell
  free := by rw [upd_ne (Ne.symm nL)]; exact I.free
  freeC := fun x c ec => by
    rw [upd_ne]
    · exact I.freeC x c ec
    · intro q
      obtain ⟨v, o, ho, hd⟩ := I.cell x c ec
      rw [q, e] at ho
      cases ho
      rw [d] at hd
      cases hd
  pin := fun p hp => by
    obtain ⟨h1, h2, h3⟩ := I.pin p hp
    exact ⟨h1, by rw [upd_ne (np p hp)]; exact h2, h3⟩
  hok := fun b u eb => by
    by_cases hb : b = a
    · subst hb
      rw [upd_same] at eb
      cases eb
      exact exH_ok e z d
    · rw [upd_ne hb] at eb
      exact (I.hok b u eb).stay (fun _ _ _ q => q) (fun c q => by rw [upd_ne (ne_of_none q na)]; exact q) fun c xs q => by rw [upd_ne (ne_of_none q na)]; exact q
  len := I.len
theorem Inv_suite {a : Addr} (I : Inv X pins σ H s) : Inv (X.suite a (X.pn ++ pins)) [] σ H s :=
  ⟨I.ok.suite _ _, I.os, I.bare, I.base, I.loc, I.cell, I.free, I.freeC, fun p hp => I.pin p (by rw [List.append_nil] at hp; exact hp), I.hok, I.len⟩
theorem Inv_unsuite {a : Addr} {pn' : List (Addr × Obj)} (I : Inv (X.suite a (X.pn ++ pins)) pn' σ H s) (ok : X.Ok) : Inv X pins σ H s :=
  ⟨ok, I.os, I.bare, I.base, I.loc, I.cell, I.free, I.freeC, fun p hp => I.pin p (List.mem_append_left _ hp), I.hok, I.len⟩
end
/-- what the clause 'except x as n' wishes: the exception is tracked from the suite on -/
def wAsT (K : PySem.W.Frag) (c : Value) (i : Nat) (ts : Addr → Value → TS) (Wout : WX) (D : Ends) : WX := fun cls d σ H =>
  d = none ∧ ∃ b, PySem.W.exmOne K cls c = some b ∧ (b = true → ∀ a, H a = none → ts a cls { nx := fun σ' H' => D.nx (σ'.set i none) H', rt := D.rt, bk := fun σ' H' => D.bk (σ'.set i none) H', ct := fun σ' H' => D.ct (σ'.set i none) H' } (σ.set i (some (.ref a))) (upd H a (ExH cls a))) ∧
    (b = false → Wout cls d σ H)
/-- a record is no frame -/
theorem no_frame {G B : Heap} {l : List Env} {p : Addr} {o : Obj} {vs : Array Value} (ff : G.FunFrames B l) (g : G.get? p = some o) (d : o.data = .fields vs) : p ∉ frs l := by
  intro m
  obtain ⟨_, o2, g2, nd⟩ := ff.mem m
  rw [g] at g2
  cases g2
  exact nd _ d
section
variable {X : Cx} {pins : List (Addr × Obj)} {D : Ends} {n : Str} {i : Nat} {p : Addr} {s : Shared} {pos : Pos}
/-- behind the clause's suite: the name goes, the object stays tracked -/
theorem suite_end (ok : X.Ok) (hN : X.N.Nodup) (hi : X.N[i]? = some n) (hl : X.env.kindOf n = some .local) (f : Flow)
    (h : SP (X.suite p (X.pn ++ pins)) [] { nx := fun σ H => D.nx (σ.set i none) H, rt := D.rt, bk := fun σ H => D.bk (σ.set i none) H, ct := fun σ H => D.ct (σ.set i none) H } f s) :
    wpAny (model X.prog X.w) X.A (do bindName X.env n .none; unbindBehindTheSuite X.env n pos) (fun _ t => SP X pins D f t) X.xe s := by
  cases f with
  | next => obtain ⟨_, _, J, q⟩ := h; exact gone_ok (Inv_unsuite J ok) hN hi hl fun t K => ⟨_, _, K, q⟩
  | brk => obtain ⟨_, _, J, q⟩ := h; exact gone_ok (Inv_unsuite J ok) hN hi hl fun t K => ⟨_, _, K, q⟩
  | cont => obtain ⟨_, _, J, q⟩ := h; exact gone_ok (Inv_unsuite J ok) hN hi hl fun t K => ⟨_, _, K, q⟩
  | ret u => obtain ⟨_, _, _, J, r, q⟩ := h; exact gone_ok (Inv_unsuite J ok) hN hi hl fun t K => ⟨_, _, _, K, r, q⟩
/-- behind the body -/
theorem body_end (ok : X.Ok) {xe : Value → Shared → Prop} {f : Flow} (h : SP (X.tr (X.pn ++ pins) xe) [] D f s) : match f with
    | .next => wpAny (model X.prog X.w) X.A (execs [] X.env) (SP X pins D) X.xe s
    | f => SP X pins D f s := by
  cases f with
  | next => obtain ⟨_, _, J, q⟩ := h; exact wpAny_execs_nil ⟨_, _, J.ofTry ok, q⟩
  | brk => obtain ⟨_, _, J, q⟩ := h; exact ⟨_, _, J.ofTry ok, q⟩
  | cont => obtain ⟨_, _, J, q⟩ := h; exact ⟨_, _, J.ofTry ok, q⟩
  | ret u => obtain ⟨_, _, _, J, r, q⟩ := h; exact ⟨_, _, _, J.ofTry ok, r, q⟩
end
section
variable {X : Cx} {x n : Str} {c : Value} {i : Nat} {body suite : List Stmt} {b₀ : Stmt} {np pos pos' : Pos} {tb : WX → TS} {ts : Addr → Value → TS} {Wout : WX}
/-- the clause at an exception of the body -/
theorem caught_at (hs : X.stack = X.env :: X.outer) (hf : X.env.frame = some X.env.locals) (hex : X.ex = []) (hN : X.N.Nodup) (hi : X.N[i]? = some n) (hln : X.env.kindOf n = some .local) (hc : Names X x c) (tk : Takes X Wout)
    (hsu : ∀ (p : Addr) (cls : Value) (pn : List (Addr × Obj)), PSs (X.suite p pn) (b₀ :: suite) (ts p cls)) {pins : List (Addr × Obj)} {xe : Value → Shared → Prop} {D : Ends} (ok : X.Ok) {e : Value} {s : Shared}
    (h : XE (X.tr (X.pn ++ pins) xe) (wAsT X.K c i ts Wout D) e s) :
    wpAny (model X.prog X.w) X.A (noteFrame e X.env) (fun _ s2 => wpAny (model X.prog X.w) X.A (setFlight e none) (fun _ s3 =>
      wpAny (model X.prog X.w) X.A (handleBy e X.env [.ExceptHandler (some (.Name x np)) (some n) (b₀ :: suite) pos']) (SP X pins D) X.xe s3) X.xe s2) X.xe s := by
  obtain ⟨p, B, s0, _, σ, H, cls, d, rfl, J0, old, up, air, free, ho, hg, rfl, b, one, yes, no⟩ := h
  have hfr : X.A.frames = some (X.env :: X.outer) := by rw [ok.frames, hs]
  have J : Inv X pins σ H s0 := J0.ofTry ok
  replace air : Sky B (X.env :: X.outer) p (Zc cls none) X.env.locals s.heap := by rw [← hs]; exact air
  refine Sky.land Zc.steady hfr hf air fun G fly up2 => ?_
  have JG : Inv X pins σ H { s with heap := G } := J.landed old fly.1 (up.trans up2) ho hg
  obtain ⟨o1, v1, g1, z1, d1⟩ := fly.there
  have nf := no_frame fly.2.2.1 g1 d1
  have notL : p ≠ X.env.locals := fun w => nf (List.mem_filterMap.mpr ⟨X.env, List.mem_cons_self, by rw [hf, w]⟩)
  have notF : p ∉ X.fs := fun m => by
    obtain ⟨e2, m2, q⟩ := List.mem_filterMap.mp m
    exact nf (List.mem_filterMap.mpr ⟨e2, List.mem_cons_of_mem _ m2, q⟩)
  -- it is no object of the entry
  have new0 : ∀ o, s0.heap.get? p ≠ some o := fun o q => by
    have w := old p o q (by rw [hs]; exact nf)
    rw [fly.2.1] at w
    cases w
  have newE : ∀ o, X.s_0.heap.get? p ≠ some o := fun o q => by
    obtain ⟨o2, w⟩ := J.base.there p o q (by rw [hex]; exact fun z => nomatch z)
    exact new0 o2 w
  have newP : ∀ r ∈ X.pn ++ pins, r.1 ≠ p := fun r m w => new0 r.2 (w ▸ (J.pin r m).1)
  have JS := JG.suite g1 d1 free notL notF
  refine wpAny_handleBy_cons (codeAny_handlers_test ?_) (by intro q; cases q)
  have kind : PySem.W.Looks (model X.prog X.w) G (typeOf (.ref p)) cls := fun _ _ _ _ k q => wpAny_typeOf_ref (k _ _ g1) (by rw [z1.1]; exact q)
  have name : ∀ {Q E : Value → Shared → Prop}, Q c { s with heap := G } → wpAny (model X.prog X.w) (X.A.mark (some (.ref p))) (eval (.Name x np) X.env) Q E { s with heap := G } := fun {Q E} q => by
    rcases hc with ⟨gl, dbg, m | ⟨m, bt, nn⟩⟩
    · exact ld_glob (X := X.suite p ((p, o1) :: (X.pn ++ pins))) JS gl m q dbg
    · exact ld_blt (X := X.suite p ((p, o1) :: (X.pn ++ pins))) JS gl m bt q nn dbg
  refine name ((PySem.W.exm_one (M := model X.prog X.w) JG.kIn kind one).here ?_)
  cases b with
  | true =>
    refine codeAny_handlers_suite_as (HandSPX.lands_againZ fly fun G2 fly2 up3 => ?_)
    obtain ⟨o2, v2, g2, z2, d2⟩ := fly2.there
    have J2 := Inv_track (J.landed (s' := { s with heap := G2 }) old fly2.1 ((up.trans up2).trans up3) ho hg) free g2 z2 d2 newE notL newP
    refine store_ok (X := X.suite p (X.pn ++ pins)) (v := .ref p) (Inv_suite J2) hN hi (.inl hln) rfl (fun s5 J5 => ?_) (.inr hln)
    exact wpAny_mono ((hsu p cls (X.pn ++ pins)).run [] s5 _ _ _ J5 (yes rfl p free)) (fun f s6 q => suite_end ok hN hi hln f q) fun _ _ w => w.elim
  | false =>
    refine wpAny_handleBy_nil ?_
    have on : wpAny (model X.prog X.w) X.A (setFlight (.ref p) X.env.frame) (fun _ s4 => wpAny (model X.prog X.w) X.A (throw (.ref p) : Sem Flow) (SP X pins D) X.xe s4) X.xe { s with heap := G } := by
      rw [hf]
      exact HandSPX.setFlight_upZ fly fun G2 fly2 up3 => wpAny_throw (tk _ _ ⟨p, B, s0, pins, σ, H, cls, none, rfl, J, old, (up.trans up2).trans up3, .inr (.inr (by rw [hs]; exact fly2)), free, ho, hg, no rfl⟩)
    obtain ⟨_, _, _, o3, v3, T, _, _, g3, _, d3, t3, _⟩ := id fly
    unfold PySem.passOn
    refine wpAny_bind (wpAny_field g3 d3 t3 ?_)
    rw [if_neg (show ¬ ((Value.ref T == Value.none) = true) from by simp)]
    first
      | exact wpAny_bind (wpAny_pure (wpAny_bind on))
      | exact wpAny_bind on
theorem ps_try_asT (hs : X.stack = X.env :: X.outer) (hf : X.env.frame = some X.env.locals) (hex : X.ex = []) (hN : X.N.Nodup) (hi : X.N[i]? = some n) (hln : X.env.kindOf n = some .local) (hc : Names X x c) (tk : Takes X Wout)
    (hb : ∀ (W : WX) (pn : List (Addr × Obj)) (xe : Value → Shared → Prop), Takes (X.tr pn xe) W → PassesOwn (model X.prog X.w) X.A X.env xe → PSs (X.tr pn xe) body (tb W))
    (hsu : ∀ (p : Addr) (cls : Value) (pn : List (Addr × Obj)), PSs (X.suite p pn) (b₀ :: suite) (ts p cls)) :
    PS X (.Try body [.ExceptHandler (some (.Name x np)) (some n) (b₀ :: suite) pos'] [] [] pos) (fun D σ H => tb (wAsT X.K c i ts Wout D) D σ H) :=
  ⟨fun pins s σ H D I h => wpAny_Try_except (wpAny_mono ((hb (wAsT X.K c i ts Wout D) (X.pn ++ pins) _ (fun _ _ w => caught_at hs hf hex hN hi hln hc tk hsu I.ok w) PassesOwn.looking).run [] s σ H D (I.toTry _) h) (fun f _ q => by have r := body_end I.ok q; cases f <;> exact r) fun _ _ w => w)⟩
end
end TL
set_option Elab.async false
set_option linter.all false
set_option maxRecDepth 100000
set_option maxHeartbeats 4000000
namespace TL
open PySem PySem.Spec PyProof.Rows L2

def RtW (C : Cxt) (W : WX) (S : AS) (H : Hp) (Z : Ends) : Option Rt → Prop
  | none => False
  | some (.nx g') => ∀ σ' S' H', Rep C S' g' σ' H' → Stp S H S' H' → Z.nx σ' H'
  | some (.bk g') => ∀ σ' S' H', Rep C S' g' σ' H' → Stp S H S' H' → Z.bk σ' H'
  | some (.ct g') => ∀ σ' S' H', Rep C S' g' σ' H' → Stp S H S' H' → Z.ct σ' H'
  | some (.rt n d g') => ∀ v σ' S' H', Rep C S' g' σ' H' → Val C.K C.S0 C.H0 H' n v d → (n = true → ∀ p, v = .ref p → S' p) → Z.rt v H'
  | some (.ex c g') => ∀ cv σ' S' H', C.mg c = some cv → Rep C S' g' σ' H' → Stp S H S' H' → W cv none σ' H'
def tsW (C : Cxt) (W : WX) (F : MS) : TS := fun Z σ H => ∃ S g, Rep C S g σ H ∧ RtW C W S H Z (F g)
def NoX : XK := fun _ _ _ => False
/-- one call as a statement or a value: its exceptions by the slots as they stand -/
def RePW (C : Cxt) (W : WX) (S : AS) (σ : L2.St) (H : Hp) (Q : VK) : Option Re → Prop
  | none => False
  | some (.ok n d g') => ∀ v H', Rep C S g' σ H' → Mov true S H H' → Val C.K S H H' n v d → (n = true → ∀ p, v = .ref p → Rep C (S.add p) g' σ H') → Q v H'
  | some (.ex c g') => ∀ cv H', C.mg c = some cv → Rep C S g' σ H' → Mov true S H H' → W cv none σ H'
def tvW (C : Cxt) (W : WX) (f : MF) : TE := fun σ H Q => ∃ S g, Rep C S g σ H ∧ RePW C W S σ H Q (f g)
theorem RePW.later {C : Cxt} {W : WX} {S : AS} {σ : L2.St} {H H1 : Hp} {Q : VK} {r : Option Re} (h : RePW C W S σ H Q r) (k : Mov true S H H1) (dm : ∀ a, S a → H1 a ≠ none) : RePW C W S σ H1 Q r := by
  cases r with
  | none => exact h
  | some z =>
    cases z with
    | ok n d g' => exact ReP.later (E := NoX) (r := some (.ok n d g')) h k dm
    | ex c g' => exact fun cv H' m a b => h cv H' m a (k.trans b)
theorem RtW.later {C : Cxt} {W : WX} {S S1 : AS} {H H1 : Hp} {Z : Ends} {r : Option Rt} (h : RtW C W S H Z r) (k : Stp S H S1 H1) : RtW C W S1 H1 Z r := by
  cases r with
  | none => exact h
  | some z =>
    cases z with
    | nx g' => exact fun σ' S' H' a b => h σ' S' H' a (k.trans b)
    | bk g' => exact fun σ' S' H' a b => h σ' S' H' a (k.trans b)
    | ct g' => exact fun σ' S' H' a b => h σ' S' H' a (k.trans b)
    | rt n d g' => exact h
    | ex c g' => exact fun cv σ' S' H' m a b => h cv σ' S' H' m a (k.trans b)
section
variable {X : Cx} {C : Cxt} {W : WX} {E : XK} {st : Stmt} {sts : List Stmt} {e : Expr} {pos : Pos} {f c : MF} {F F1 F2 : MS} {Z : Ends} {σ : L2.St} {H : Hp} {Q : VK}
/-- a call in a try's body: the arguments raise nothing -/
def mCallW (F : MS) (N : Nat) (fs : MA) : MF := fun g => match fs g with
  | some (.ok ds g') => match callM F N ds with
    | some (.rt n d _) => some (.ok n d g')
    | some (.ex c _) => some (.ex c g')
    | _ => none
  | _ => none
/-- the exceptions of a call: what is known of the heap -/
theorem tv_callW {N np : Nat} {fs : MA} (hn : ∀ ds g g', fs g = some (.ok ds g') → ds.length = np) (h : tvW C W (mCallW F N fs) σ H Q) : tCallS (spD C.K C.mg np N F) (WE W) (ta C NoX true fs) σ H Q := by
  obtain ⟨S, g, rp, h⟩ := h
  refine ⟨S, g, rp, ?_⟩
  unfold mCallW at h
  cases e : fs g with
  | none => rw [e] at h; exact h
  | some z =>
    rw [e] at h
    cases z with
    | ex c g' => exact h.elim
    | ok ds g' =>
      intro vs H1 r1 m1 t1
      have q : RePW C W S σ H1 Q _ := RePW.later h m1 r1.dom
      refine ⟨by rw [t1.length]; exact hn ds g g' e, S.s, fun _ => none, ds.map .im, (fun _ _ z => nomatch z), rep_callee r1 t1, ?_⟩
      simp only at q
      show EndP _ H1 Q (WE W σ) (callM F N ds)
      have back : ∀ {S' : AS} {g2 : G} {σ' : L2.St} {H' : Hp}, Rep ⟨C.K, C.mg, S.s, H1, fun _ => none⟩ S' g2 σ' H' → Same H1 H' := fun {S' g2 σ' H'} r' b o e => r'.fr b o e fun _ z => nomatch z
      cases ec : callM F N ds with
      | none => rw [ec] at q; exact q
      | some z =>
        rw [ec] at q
        cases z with
        | rt n d g2 =>
          intro v σ' S' H' r' vl x
          have sm := back r'
          exact ReP.done (E := NoX) (m := true) q r1 sm vl
        | ex c g2 =>
          intro cv σ' S' H' hm r'
          exact q cv H' hm (r1.grow (back r')) (.of (back r'))
        | nx g2 => exact q.elim
        | bk g2 => exact q.elim
        | ct g2 => exact q.elim
theorem e_callW {x : Str} {k np N : Nat} {fs : MA} {es : List Expr} {p : Pos} (h : Kn X.prog X.w X.K X.mg X.base x k np N F) (hr : Room k X.A) (tk : Takes X W) (hn : ∀ ds g g', fs g = some (.ok ds g') → ds.length = np) (ha : PA X (e :: es) (ta C NoX true fs)) (hg : Gl X x := by rfl) (hK : C.K = X.K := by rfl) (hM : C.mg = X.mg := by rfl)
    (hdb : (x == ("__debug__" : Str)) = false := by decide) (he : starEach (e :: es) X.env = (false, eval e X.env) :: starEach es X.env := by rfl) (hpl : (backTo pos (starEach es X.env)).any (·.1) = false := by rfl) :
    PE X (.Call (.Name x p) (e :: es) [] pos) (tvW C W (mCallW F N fs)) := by
  obtain ⟨f, fd, ps, G, hm, hk, hb⟩ := h
  have G' : FnOk X.prog X.w X.K X.mg X.base (L2.CX X.prog X.w) k f fd ps (spD C.K C.mg np N F) := by rw [hK, hM]; exact G
  exact PE.imp (pe_callS (E := WE W) G' hr hg hm hk hb (fun σ => passAt tk σ) ha hdb he hpl) fun σ H Q h => tv_callW hn h
theorem w_expr {st : Stmt} (h : PS X st (tDrop (tvW C W f))) : PS X st (tsW C W (sExpr f)) := PS.imp h fun Z σ H h => by
  obtain ⟨S, g, r, h⟩ := h
  refine ⟨S, g, r, ?_⟩
  unfold sExpr sThen at h
  cases e : f g with
  | none => rw [e] at h; exact h
  | some z =>
    rw [e] at h
    cases z with
    | ok n d g' => exact fun v H' a b _ _ => h σ S H' a b.stp
    | ex c g' => exact fun cv H' q r' b => h cv σ S H' q r' b.stp
theorem w_one {st : Stmt} (h1 : PS X st (tsW C W F)) : PSs X [st] (tsW C W F) := pss_one h1
/-- a test that raises nothing -/
def sTestW (f : MF) (k : Bool → MS) : MS := fun g => match f g with
  | some (.ok _ d g') => match truth d with
    | some b => k b g'
    | none => none
  | _ => none
def sIfW (c : MF) (F1 F2 : MS) : MS := sTestW c fun b => if b = true then F1 else F2
theorem w_if {a b : List Stmt} {t : Expr} (hc : PT X t (tb C NoX true c)) (ha : PSs X a (tsW C W F1)) (hb : PSs X b (tsW C W F2)) : PS X (.If t a b pos) (tsW C W (sIfW c F1 F2)) := PS.imp (ps_if hc ha hb) fun Z σ H h => by
  obtain ⟨S, g, r, h⟩ := h
  refine ⟨S, g, r, ?_⟩
  unfold sIfW sTestW at h
  cases e : c g with
  | none => rw [e] at h; exact h
  | some z =>
    rw [e] at h
    cases z with
    | ex c g' => exact h.elim
    | ok n d g' =>
      simp only at h
      cases et : truth d with
      | none => rw [et] at h; exact h.elim
      | some b =>
        rw [et] at h
        refine ⟨b, et, fun H' r1 m1 => ?_⟩
        have h := RtW.later h m1.stp
        cases b with
        | true => exact iteT ⟨S, g', r1, h⟩
        | false => exact iteF ⟨S, g', r1, h⟩
end
/-- what is known of the classes of errors by their names -/
def CatchN (K : PySem.W.Frag) (mg : Str → Option Value) (c : Value) (kn : List Str) : Prop := ∀ x ∈ kn, ∀ cv, mg x = some cv → PySem.W.exmOne K cv c = some true ∧ ∃ a, cv = .ref a ∧ NameIn K x a
def sTry (kn : List Str) (i : Nat) (F G : MS) : MS := fun g => match F g with
  | some (.ex c g') => if c ∈ kn ∧ free? g' i = true then match G (g'.set i (.im (.exc c))) with
    | some (.nx g2) => if plain? g2 [i] = true then some (.nx (wipeG g2 [i])) else none
    | some (.rt n d g2) => some (.rt n d g2)
    | _ => none
    else none
  | r => r
section
variable {X : Cx} {C : Cxt} {E : XK} {x n : Str} {c : Value} {i : Nat} {body suite : List Stmt} {b₀ : Stmt} {np pos pos' : Pos} {F G : MS} {kn : List Str}
theorem s_try (hs : X.stack = X.env :: X.outer) (hf : X.env.frame = some X.env.locals) (hex : X.ex = []) (hN : X.N.Nodup) (hi : X.N[i]? = some n) (hln : X.env.kindOf n = some .local) (hc : Names X x c) (tk : Takes X fun cls d _ H => E cls d H) (hkn : CatchN X.K C.mg c kn)
    (hb : ∀ (W : WX) (pn : List (Addr × Obj)) (xe : Value → Shared → Prop), Takes (X.tr pn xe) W → PassesOwn (model X.prog X.w) X.A X.env xe → PSs (X.tr pn xe) body (tsW C W F))
    (hsu : ∀ (a : Addr) (pn : List (Addr × Obj)), PSs (X.suite a pn) (b₀ :: suite) (ts C NoX G)) (hK : C.K = X.K := by rfl) :
    PS X (.Try body [.ExceptHandler (some (.Name x np)) (some n) (b₀ :: suite) pos'] [] [] pos) (ts C E (sTry kn i F G)) :=
  PS.imp (ps_try_asT (tb := fun W => tsW C W F) (ts := fun _ _ => ts C NoX G) hs hf hex hN hi hln hc tk hb fun a _ pn => hsu a pn) fun Z σ H h => by
    obtain ⟨S, g, r, h⟩ := h
    refine ⟨S, g, r, ?_⟩
    unfold sTry at h
    cases e : F g with
    | none => rw [e] at h; exact h
    | some z =>
      rw [e] at h
      cases z with
      | nx g' => exact h
      | bk g' => exact h
      | ct g' => exact h
      | rt n d g' => exact h
      | ex c' g' =>
        simp only at h
        by_cases hq : c' ∈ kn ∧ free? g' i = true
        · rw [if_pos hq] at h
          intro cv σ1 S1 H1 hm r1 k1
          obtain ⟨hx, a0, rfl, hna⟩ := hkn c' hq.1 cv hm
          refine ⟨rfl, true, hx, fun _ a ha => ?_, fun z => nomatch z⟩
          have rg := (r1.grow (same_new (o := ExH (.ref a0) a) ha)).put hq.2 (v := .ref a) (d := .exc c') (.exc (by rw [hK]; exact hna) upd_same (r1.fresh ha))
          refine ⟨S1, _, rg, ?_⟩
          have k2 : Stp S H S1 (upd H1 a (ExH (.ref a0) a)) := k1.trans (.ext (same_new ha))
          cases eG : G (g'.set i (.im (.exc c'))) with
          | none => rw [eG] at h; exact h
          | some z =>
            rw [eG] at h
            cases z with
            | nx g2 =>
              intro σ2 S2 H2 r2 k3
              simp only at h
              by_cases hp : plain? g2 [i] = true
              · rw [if_pos hp] at h
                exact h _ S2 H2 (r2.wiped hp) (k2.trans k3)
              · rw [if_neg hp] at h
                exact h.elim
            | rt n d g2 => exact fun v σ2 S2 H2 r2 vl x => h v σ2 S2 H2 r2 vl x
            | bk g2 => exact h.elim
            | ct g2 => exact h.elim
            | ex c2 g2 => exact h.elim
        · rw [if_neg hq] at h
          exact h.elim
end
end TL
set_option Elab.async false
set_option linter.all false
set_option maxRecDepth 100000
set_option maxHeartbeats 4000000
namespace TL
open PySem PySem.Spec PyProof.Rows L2

/-- a value's kind, caught errors too -/
def TyE (K : PySem.W.Frag) (H : Hp) (v : V) (t : Value) : Prop := TyX K H v t ∨ ∃ (a D : Addr), v = .ref a ∧ t = .ref D ∧ H a = some (ExH (.ref D) a) ∧ ExcC K D
theorem kitE_of {X : Cx} {pins : List (Addr × Obj)} {σ : L2.St} {H : Hp} {s : Shared} {x : V} {u t : Value} (I : Inv X pins σ H s) (rx : RelV x u) (ty : TyE X.K H x t) : ∃ P : Heap → Prop, PySem.W.KitX X.K u t P ∧ P s.heap ∧ u ≠ .builtin "__main__.__loader__#opaque" := by
  rcases ty with ty | ⟨a, D, rfl, rfl, ha, hc⟩
  · exact kit_of I rx ty
  · cases (show u = Value.ref a from rx)
    obtain ⟨⟨oe, vs, hg, hz, hd⟩, _, _⟩ := I.hok a _ ha
    have J : PySem.W.InstAt s.heap a oe D none := by
      obtain ⟨oc, od, oda, osl⟩ := oe
      obtain ⟨h1, h2⟩ := hz
      dsimp only at h1 h2 hd
      subst h1 h2 hd
      exact ⟨hg, rfl, rfl, trivial⟩
    exact ⟨_, PySem.W.handS_kitx_exc hc.hg hc.hk hc.hs hc.hd hc.ha hc.hn hc.ht hc.hm, J, fun z => nomatch z⟩
def rIsiE (K : PySem.W.Frag) : List V → Hp → VK → Prop := fun xs H Q => (∃ (x c : V) (t u : Value) (b : Bool), xs = [x, c] ∧ ClsV c u ∧ TyE K H x t ∧ PySem.W.kitOne K t u = some b ∧ Q (.bl b) H) ∨
  ∃ (x : V) (tp : Addr) (cs : List V) (t : Value) (us : List Value) (b : Bool), xs = [x, .ref tp] ∧ SqT K H tp cs ∧ Paired ClsV cs us ∧ TyE K H x t ∧ PySem.W.kitAny K t us = some b ∧ Q (.bl b) H
section
variable {X : Cx}
theorem c_isiX : CallR X (.builtin "isinstance") (rIsiE X.K) := by
  intro pins s σ H xs us Q I r h
  rcases h with ⟨x, c, t, u, b, rfl, k, ty, e, q⟩ | ⟨x, tp, cs, t, ws, b, rfl, hT, k, ty, e, q⟩
  · obtain ⟨u1, u2, rfl, r1, r2⟩ := vals2 r
    have e2 := k.eq r2
    subst e2
    obtain ⟨P, Z, p, hx⟩ := kitE_of I r1 ty
    exact PySem.W.kia_one Z I.kIn p e hx fun tk => ⟨.bl b, H, I.tok tk, rfl, q⟩
  · obtain ⟨u1, u2, rfl, r1, r2⟩ := vals2 r
    cases (show u2 = Value.ref tp from r2)
    obtain ⟨P, Z, p, hx⟩ := kitE_of I r1 ty
    obtain ⟨its, rv, ⟨o, h1, h2, n, h3⟩, _⟩ := I.tuple hT
    have e3 := ClsV.all k rv
    subst e3
    obtain ⟨oc, od, dt, sl⟩ := o
    simp only at h2 h3
    subst h2 h3
    exact PySem.W.kia_tup Z I.kIn p h1 e hx fun tk => ⟨.bl b, H, I.tok tk, rfl, q⟩
end
def subN (c c' : Str) : Bool := decide (c = c') || decide (c' = "TableError")
structure ClsK (K : PySem.W.Frag) (kn qn : List Str) : Prop where
  ex : ∀ c ∈ kn, ∀ a, NameIn K c a → ExcC K a ∧ PySem.W.subIn K (.ref a) (.type "ValueError") = some true ∧ PySem.W.subIn K (.ref a) (.ref a) = some true
  q : ∀ c ∈ qn, ∀ a, NameIn K c a → (PySem.W.clsIn K a).isSome = true ∧ PySem.W.typeIn K (.ref a) = some (.type "type")
  sub : ∀ c ∈ kn, ∀ c' ∈ qn, ∀ a a', NameIn K c a → NameIn K c' a' → PySem.W.subIn K (.ref a) (.ref a') = some (subN c c')
theorem NameIn.eq {K : PySem.W.Frag} {c : Str} {a b : Addr} (h : NameIn K c a) (h' : NameIn K c b) : a = b := by
  unfold NameIn at h h'
  rw [h] at h'
  cases h'
  rfl
theorem mkCls {K : PySem.W.Frag} {ks qs : List (Str × Addr)} (hk : ∀ p ∈ ks, NameIn K p.1 p.2 ∧ ExcC K p.2 ∧ PySem.W.subIn K (.ref p.2) (.type "ValueError") = some true ∧ PySem.W.subIn K (.ref p.2) (.ref p.2) = some true)
    (hq : ∀ p ∈ qs, NameIn K p.1 p.2 ∧ PySem.W.hasDictIn K p.2 = true ∧ PySem.W.typeIn K (.ref p.2) = some (.type "type"))
    (hs : ∀ p ∈ ks, ∀ q ∈ qs, PySem.W.subIn K (.ref p.2) (.ref q.2) = some (subN p.1 q.1)) : ClsK K (ks.map (·.1)) (qs.map (·.1)) where
  ex := fun c hc a ha => by
    obtain ⟨p, hp, rfl⟩ := List.mem_map.mp hc
    obtain ⟨h1, h2⟩ := hk p hp
    rw [ha.eq h1]
    exact h2
  q := fun c hc a ha => by
    obtain ⟨p, hp, rfl⟩ := List.mem_map.mp hc
    obtain ⟨h1, h2, h3⟩ := hq p hp
    rw [ha.eq h1]
    obtain ⟨cd, h4, _⟩ := PySem.W.any_some h2
    exact ⟨by rw [h4]; rfl, h3⟩
  sub := fun c hc c' hc' a a' ha ha' => by
    obtain ⟨p, hp, rfl⟩ := List.mem_map.mp hc
    obtain ⟨q, hq', rfl⟩ := List.mem_map.mp hc'
    rw [ha.eq (hk p hp).1, ha'.eq (hq q hq').1]
    exact hs p hp q hq'
theorem mkCatch {K : PySem.W.Frag} {mg : Str → Option Value} {C : Addr} {ks : List (Str × Addr)} (hm : ∀ p ∈ ks, mg p.1 = some (.ref p.2) ∧ NameIn K p.1 p.2 ∧ PySem.W.subIn K (.ref p.2) (.ref C) = some true)
    (h1 : PySem.W.subIn K (.ref C) (.type "BaseException") = some true) (hdct : PySem.W.hasDictIn K C = true) (ht : PySem.W.typeIn K (.ref C) = some (.type "type")) : CatchN K mg (.ref C) (ks.map (·.1)) := fun x hx cv e => by
  obtain ⟨p, hp, rfl⟩ := List.mem_map.mp hx
  obtain ⟨h2, h3, h4⟩ := hm p hp
  rw [h2] at e
  cases e
  exact ⟨PySem.W.exm_ref h1 hdct ht h4, p.2, rfl, h3⟩
def kitD (kn qn : List Str) : D → D → Option Bool
  | .exc c, .cls c' => if c ∈ kn ∧ c' ∈ qn then some (subN c c') else none
  | .exc c, .ob (.ty T) => if c ∈ kn ∧ T = "ValueError" then some true else none
  | d, .cls c' => if (tyN d).isSome = true ∧ c' ∈ qn then some false else none
  | d, .ob (.ty T) => match tyN d with
    | some t => kitB t T
    | none => none
  | _, _ => none
def kitDs (kn qn : List Str) (d : D) : List D → Option Bool
  | [] => some false
  | t :: ts => match kitD kn qn d t, kitDs kn qn d ts with
    | some b, some b' => some (b || b')
    | _, _ => none
def isiX (kn qn : List Str) : List D → Option (Bool × D)
  | [d, .tup (t0 :: ts)] => match kitDs kn qn d (t0 :: ts) with
    | some b => some (false, .bl b)
    | none => none
  | [d, t] => match kitD kn qn d t with
    | some b => some (false, .bl b)
    | none => none
  | _ => none
section
variable {K : PySem.W.Frag} {kn qn : List Str} {S : Addr → Prop} {H : Hp}
theorem kit_tyref {T : String} {a : Addr} (hT : T ∈ (["NoneType", "bool", "int", "str", "list", "tuple", "dict"] : List String)) (hc : (PySem.W.clsIn K a).isSome = true) (ht : PySem.W.typeIn K (.ref a) = some (.type "type")) : PySem.W.kitOne K (.type T) (.ref a) = some false := by
  have e : PySem.W.subIn K (.type T) (.ref a) = some false := by
    simp only [List.mem_cons, List.not_mem_nil, or_false] at hT
    rcases hT with rfl | rfl | rfl | rfl | rfl | rfl | rfl <;> rfl
  have e2 : ((PySem.W.clsIn K a).isSome && PySem.W.typeIn K (.ref a) == some (.type "type")) = true := by rw [hc, ht] <;> rfl
  show (if (Value.type T == Value.ref a) = true then some true else if ((PySem.W.clsIn K a).isSome && PySem.W.typeIn K (.ref a) == some (.type "type")) = true then PySem.W.subIn K (.type T) (.ref a) else none) = some false
  rw [if_pos e2, e]
  rfl
theorem tyN_mem {d : D} {T : String} (h : tyN d = some T) : T ∈ (["NoneType", "bool", "int", "str", "list", "tuple", "dict"] : List String) := by
  cases d <;> cases h <;> decide
theorem kit_refref {D C : Addr} {b : Bool} (hc : (PySem.W.clsIn K C).isSome = true) (ht : PySem.W.typeIn K (.ref C) = some (.type "type")) (hs : PySem.W.subIn K (.ref D) (.ref C) = some b) (hr : D = C → b = true) : PySem.W.kitOne K (.ref D) (.ref C) = some b := by
  have e2 : ((PySem.W.clsIn K C).isSome && PySem.W.typeIn K (.ref C) == some (.type "type")) = true := by rw [hc, ht] <;> rfl
  show (if (Value.ref D == Value.ref C) = true then some true else if ((PySem.W.clsIn K C).isSome && PySem.W.typeIn K (.ref C) == some (.type "type")) = true then PySem.W.subIn K (.ref D) (.ref C) else none) = some b
  by_cases z : (Value.ref D == Value.ref C) = true
  · rw [if_pos z, hr (Value.ref.inj (beq_iff_eq.mp z))]
  · rw [if_neg z, if_pos e2]
    exact hs
theorem kit_refval {D : Addr} (hs : PySem.W.subIn K (.ref D) (.type "ValueError") = some true) : PySem.W.kitOne K (.ref D) (.type "ValueError") = some true := by
  show (if (Value.ref D == Value.type "ValueError") = true then some true else if PySem.W.kitMeta "ValueError" = true then PySem.W.subIn K (.ref D) (.type "ValueError") else none) = some true
  rw [if_neg (by intro z; cases z), if_pos (by decide +kernel)]
  exact hs
theorem kitD_eq {d td : D} (hd : ∀ c, d ≠ .exc c) : kitD kn qn d td = match td with
    | .cls c' => if (tyN d).isSome = true ∧ c' ∈ qn then some false else none
    | .ob (.ty T) => match tyN d with
      | some t => kitB t T
      | none => none
    | _ => none := by
  cases d <;> first
    | exact absurd rfl (hd _)
    | (cases td <;> first | rfl | (rename_i v; cases v <;> rfl))
theorem kitD_tyN (h : ClsK K kn qn) {v : V} {d : D} (tv : Tr K S H v d) (hd : ∀ c, d ≠ .exc c) {t0 : D} {b0 : Bool} (h0 : kitD kn qn d t0 = some b0) : ∃ t, TyE K H v t ∧ ∀ (w : V) (td : D) (b : Bool), Tr K S H w td → kitD kn qn d td = some b → ∃ u, ClsV w u ∧ PySem.W.kitOne K t u = some b := by
  obtain ⟨T, hT⟩ : ∃ T, tyN d = some T := by
    cases e : tyN d with
    | some T => exact ⟨T, rfl⟩
    | none =>
      rw [kitD_eq hd, e] at h0
      split at h0
      · rw [if_neg (by rintro ⟨z, _⟩; cases z)] at h0; cases h0
      · cases h0
      · cases h0
  refine ⟨.type T, .inl (tyX_of tv hT), fun w td b tw hb => ?_⟩
  rw [kitD_eq hd, hT] at hb
  cases td with
  | cls c' =>
    cases tw with
    | @cls a' _ hc' =>
      simp only at hb
      by_cases z : (some T).isSome = true ∧ c' ∈ qn
      · rw [if_pos z] at hb
        cases hb
        obtain ⟨q1, q2⟩ := h.q c' z.2 a' hc'
        exact ⟨_, .own a', kit_tyref (tyN_mem hT) q1 q2⟩
      · rw [if_neg z] at hb
        cases hb
  | ob v2 =>
    cases tw
    cases w with
    | ty T2 => exact ⟨_, .ty _, kit_ty hb⟩
    | _ => cases hb
  | _ => cases hb
/-- a value's kind, and the answers for all classes -/
theorem kitD_of (h : ClsK K kn qn) {v : V} {d : D} (tv : Tr K S H v d) {t0 : D} {b0 : Bool} (h0 : kitD kn qn d t0 = some b0) : ∃ t, TyE K H v t ∧ ∀ (w : V) (td : D) (b : Bool), Tr K S H w td → kitD kn qn d td = some b → ∃ u, ClsV w u ∧ PySem.W.kitOne K t u = some b := by
  cases d with
  | exc c =>
    cases tv with
    | @exc a C _ hc ha n =>
      have hcn : c ∈ kn := by
        unfold kitD at h0
        split at h0 <;> first
          | (rename_i q; cases q; split at h0 <;> first | (rename_i z; exact z.1) | cases h0)
          | (rename_i q _; cases q; split at h0 <;> first | (rename_i z; exact z.1) | cases h0)
          | cases h0
          | skip
        all_goals first | done | (simp [tyN] at h0)
      obtain ⟨hx, hv, hsf⟩ := h.ex c hcn C hc
      refine ⟨.ref C, .inr ⟨a, C, rfl, rfl, ha, hx⟩, fun w td b tw hb => ?_⟩
      cases td with
      | cls c' =>
        cases tw with
        | @cls a' _ hc' =>
          have hb : (if c ∈ kn ∧ c' ∈ qn then some (subN c c') else none) = some b := hb
          by_cases z : c ∈ kn ∧ c' ∈ qn
          · rw [if_pos z] at hb
            cases hb
            obtain ⟨q1, q2⟩ := h.q c' z.2 a' hc'
            have hs := h.sub c z.1 c' z.2 C a' hc hc'
            refine ⟨_, .own a', kit_refref q1 q2 hs fun e => ?_⟩
            subst e
            rw [hsf] at hs
            exact (Option.some.inj hs).symm
          · rw [if_neg z] at hb
            cases hb
      | ob v2 =>
        cases tw
        cases w with
        | ty T =>
          have hb : (if c ∈ kn ∧ T = "ValueError" then some true else none) = some b := hb
          by_cases z : c ∈ kn ∧ T = "ValueError"
          · rw [if_pos z] at hb
            cases hb
            rw [z.2]
            exact ⟨_, .ty _, kit_refval hv⟩
          · rw [if_neg z] at hb
            cases hb
        | _ => cases hb
      | _ => cases hb
  | _ => exact kitD_tyN h tv (by intro c z; cases z) h0
theorem kitDs_of {t : Value} {d : D} (f : ∀ (w : V) (td : D) (b : Bool), Tr K S H w td → kitD kn qn d td = some b → ∃ u, ClsV w u ∧ PySem.W.kitOne K t u = some b) :
    ∀ {ws : List V} {ts : List D} {b : Bool}, TrL K S H ws ts → kitDs kn qn d ts = some b → ∃ us, Paired ClsV ws us ∧ PySem.W.kitAny K t us = some b
  | _, _, _, .nil, h => by cases h; exact ⟨[], .nil, rfl⟩
  | _, _, b, .cons (d := td) (ds := ts) h1 h2, h => by
    unfold kitDs at h
    cases e1 : kitD kn qn d td with
    | none => rw [e1] at h; cases h
    | some b1 =>
      cases e2 : kitDs kn qn d ts with
      | none => rw [e1, e2] at h; cases h
      | some b2 =>
        rw [e1, e2] at h
        simp only [Option.some.injEq] at h
        obtain ⟨u, k1, k2⟩ := f _ _ _ h1 e1
        obtain ⟨us, k3, k4⟩ := kitDs_of f h2 e2
        refine ⟨u :: us, .cons k1 k3, kitAny_cons k2 (fun z => ?_) fun z => ?_⟩
        · rw [k4, ← h, z]; rfl
        · rw [← h, z]; rfl
theorem l_isiX (h : ClsK K kn qn) : LC K (rIsiE K) (isiX kn qn) := fun S H xs ds n z Q dm t ho k => by
  unfold isiX at ho
  split at ho
  · rename_i d t0 ts
    split at ho
    · rename_i b hb
      obtain ⟨v, w, rfl, h1, h2⟩ := trl2 t
      obtain ⟨a, xs, rfl, h3, h4⟩ := tup_sq h2
      have e0 : ∃ b0, kitD kn qn d t0 = some b0 := by
        unfold kitDs at hb
        cases e1 : kitD kn qn d t0 with
        | none => rw [e1] at hb; cases hb
        | some b1 => exact ⟨b1, rfl⟩
      obtain ⟨b0, e0⟩ := e0
      obtain ⟨t, ty, f⟩ := kitD_of h h1 e0
      obtain ⟨us, k1, k2⟩ := kitDs_of f h4 hb
      exact .inr ⟨v, a, xs, t, us, b, rfl, h3, k1, ty, k2, fin1 ho (.bl _) k⟩
    · cases ho
  · rename_i d td _
    split at ho
    · rename_i b hb
      obtain ⟨v, w, rfl, h1, h2⟩ := trl2 t
      obtain ⟨t, ty, f⟩ := kitD_of h h1 hb
      obtain ⟨u, k1, k2⟩ := f w td b h2 hb
      exact .inl ⟨v, w, t, u, b, rfl, k1, ty, k2, fin1 ho (.bl _) k⟩
    · cases ho
  · cases ho
end
end TL
set_option Elab.async false
set_option linter.all false
set_option maxRecDepth 100000
set_option maxHeartbeats 4000000
namespace TL
open PySem PySem.Spec PyProof.Rows L2

/-- a, b = x, y -/
def sPar (i j : Nat) (fs : MA) : MS := fun g => match fs g with
  | none => none
  | some (.ex c g') => some (.ex c g')
  | some (.ok ds g') => match ds with
    | [d, e] => match putIm i d g' with
      | some g1 => match putIm j e g1 with
        | some g2 => some (.nx g2)
        | none => none
      | none => none
    | _ => none
section
variable {X : Cx} {C : Cxt} {E : XK} {st : Stmt}
end

def aPairs : List (MF × MF) → MA
  | [] => aNil
  | (fk, fv) :: r => aCons fk (aCons fv (aPairs r))
def pairsK : List D → Option (List (Key × D))
  | [] => some []
  | k :: v :: r => match keyD k, pairsK r with
    | some k, some es => some ((k, v) :: es)
    | _, _ => none
  | _ => none
def mergeD (es more : List (Key × D)) : List (Key × D) := more.foldl (fun acc kv => putD acc kv.1 kv.2) es
def mDisp (ps : List (MF × MF)) : MF := fun g => match aPairs ps g with
  | none => none
  | some (.ex _ _) => none
  | some (.ok ds g') => match pairsK ds with
    | some es => if es.length ≤ 15 ∧ shape g' = shape g then some (.ok true (.dic (mergeD [] es)) g') else none
    | none => none
section
variable {X : Cx} {C : Cxt} {E : XK} {m : Bool}
end

instance (i j : Int) : Decidable (CDivP i j) := by unfold CDivP; infer_instance
end TL
set_option Elab.async false
set_option linter.all false
set_option maxRecDepth 100000
set_option maxHeartbeats 4000000
namespace TL
open PySem PySem.Spec PyProof.Rows L2

section
variable {X : Cx} {C : Cxt} {E : XK} {m : Bool} {σ : L2.St} {H : Hp} {Q : VK} {i : Nat} {fi : MF}
end
end TL
set_option Elab.async false
set_option linter.all false
set_option maxRecDepth 100000
set_option maxHeartbeats 4000000
namespace TL
open PySem PySem.Spec PyProof.Rows L2
section
variable {K : PySem.W.Frag} {X : Cx}
end
end TL
set_option Elab.async false
set_option linter.all false
set_option maxRecDepth 100000
set_option maxHeartbeats 4000000
namespace TL
open PySem PySem.Spec PyProof.Rows L2

/-- as FnOk, where no repr is under way -/
structure FnG (P : Program) (w : World) (K : PySem.W.Frag) (mg : Str → Option Value) (base : Heap) (CX : CXT) (k : Nat) (f : Addr) (fd : FuncData) (ps : List Str) (sp : Sp) : Prop where
  len : ∀ vs H Q E, sp vs H Q E → vs.length = ps.length
  run : ∀ (A : Around) (outer : List Env) (s : Shared) (H : Hp) (args : Args) (us : List Value) (vs : List V) (Q : VK) (E : XK), A.guards = some [] → Room k A → Env0 P w K mg base A outer s H → BindsTo s fd args (ps.zip us) → Vals vs us → sp vs H Q E →
    codeAny (model P w) A (.call (.ref f) args) (CR CX outer P w H s Q E) s
section
variable {P : Program} {w : World} {K : PySem.W.Frag} {mg : Str → Option Value} {base : Heap} {CX : CXT} {k : Nat} {f : Addr} {fd : FuncData} {ps : List Str} {sp sp' : Sp}
theorem FnG.imp (F : FnG P w K mg base CX k f fd ps sp) (h : ∀ vs H Q E, sp' vs H Q E → sp vs H Q E) : FnG P w K mg base CX k f fd ps sp' :=
  ⟨fun _ _ _ _ q => F.len _ _ _ _ (h _ _ _ _ q), fun A o s H a us vs Q E g r e b v q => F.run A o s H a us vs Q E g r e b v (h _ _ _ _ q)⟩
end
/-- a def's body, at a place without guards -/
theorem fnG_body {CX : CXT} {P : Program} {w : World} {K : PySem.W.Frag} {mg : Str → Option Value} {base : Heap} {k : Nat} {f : Addr} {name qual : Str} {params : Arguments} {body : List Stmt} {scope : Scope} {dV kV doc pm cdv ct oc : Value} {an od : Option Addr}
    {osl : Array (Option Value)} {N ps : List Str} {sp : Sp} (lk : K.lookup f = some ⟨oc, od, .func (PySem.W.fnOf name qual params body scope dV kV doc pm an cdv ct), osl⟩) (hcd : PySem.W.codeIn K cdv qual = true) (S : FnScope N ps scope)
    (len : ∀ vs H Q E, sp vs H Q E → vs.length = ps.length)
    (bodyOk : ∀ (A : Around) (outer : List Env) (s : Shared) (H : Hp) (vs : List V) (Q : VK) (E : XK), (A.deeper (envOfC qual scope s.heap.objs.size f cdv)).guards = some [] → Room k (A.deeper (envOfC qual scope s.heap.objs.size f cdv)) → sp vs H Q E →
      ∃ t, PSs (cxOf CX P w K mg base N qual scope f cdv A outer s H E) body t ∧ t { nx := fun _ H' => Q .non H', rt := Q } (start N vs) H) :
    FnG P w K mg base CX (k + 1) f (PySem.W.fnOf name qual params body scope dV kV doc pm an cdv ct) ps sp where
  len := len
  run := fun A outer s H args us vs Q E g room e0 binds rel want => by
    have kin : K.In s.heap := e0.mod.kin.keeps fun b o q => (e0.bs b o q).1
    have free : s.heap.NoLimit := e0.mod.nolimit.keeps fun b o q => (e0.bs b o q).1
    have kinds : ∀ y ∈ ps.zip us, scope.names.lookup y.1 = some .local ∨ (scope.names.lookup y.1 = some .cell ∧ ((cellsFrom (s.heap.objs.size + 1) scope.names []).lookup y.1).isSome = true) := by
      rintro ⟨n, v⟩ m
      exact (S.par n (List.of_mem_zip m).1).imp id fun q => ⟨q, PySem.W.cellsFrom_some _ _ _ (.inl q)⟩
    refine codeAny_call_function room.depth (kin _ _ lk) rfl S.co S.gen rfl (PySem.W.codeRec_of kin hcd) (binds _ _ _ _ (wpAny_newFunctionEnv_cells S.kind kinds fun env en s1 made => ?_))
    subst en
    refine ⟨free.keeps made.toInCall.keep, codeAny_func ?_⟩
    obtain ⟨t, ht, q⟩ := bodyOk A outer s H vs Q E g (room.deeper _) want
    refine wpAny_mono (ht.run [] s1 (start N vs) H _ (inv_start S room.hd e0 (len _ _ _ _ want) rel made) q) (fun fl s2 h => ?_) fun _ _ h => h
    cases fl with
    | ret u => obtain ⟨v, _, H2, J, r, q⟩ := h; exact ⟨v, H2, J.os, J.bare, J.base, J.hok, r, q⟩
    | next => obtain ⟨_, H2, J, q⟩ := h; exact ⟨.non, H2, J.os, J.bare, J.base, J.hok, rfl, q⟩
    | brk => obtain ⟨_, _, _, q⟩ := h; exact q.elim
    | cont => obtain ⟨_, _, _, q⟩ := h; exact q.elim
theorem fnDG {P : Program} {w : World} {K : PySem.W.Frag} {mg : Str → Option Value} {base : Heap} {x qual : Str} {st : Stmt} {f : Addr} {fd : FuncData} {N ps : List Str} {k : Nat} {F : MS} (Fu : Fun K x qual st f fd) (sc : FnScope N ps (defScope st))
    (hbody : ∀ (cdv : Value) (A : Around) (outer : List Env) (s : Shared) (H : Hp) (E : XK) (S0 : Addr → Prop) (io : Nat → Option Addr), (A.deeper (envOfC qual (defScope st) s.heap.objs.size f cdv)).guards = some [] → Room k (A.deeper (envOfC qual (defScope st) s.heap.objs.size f cdv)) →
      PSs (cxOf (L2.CX P w) P w K mg base N qual (defScope st) f cdv A outer s H E) (defBody st) (ts ⟨K, mg, S0, H, io⟩ E F)) : FnG P w K mg base (L2.CX P w) (k + 1) f fd ps (spD K mg ps.length N.length F) := by
  obtain ⟨oc, od, kV, doc, pm, an, cdv, ct, osl, rfl, lk, hcd⟩ := Fu.ex
  refine fnG_body lk hcd sc (fun vs H Q E h => h.1) fun A outer s H vs Q E hg hr h => ?_
  obtain ⟨hl, S0, io, as, hio, rp, q⟩ := h
  refine ⟨_, hbody cdv A outer s H E S0 io hg hr, entryS S0 io hio, argsG as N.length, rep_start rp, ?_⟩
  cases e : F (argsG as N.length) with
  | none => rw [e] at q; exact q
  | some z =>
    rw [e] at q
    cases z with
    | nx g' => exact fun σ' S' H' r' sp => q .non σ' S' H' r' (.flat .non) fun z => by cases z
    | bk g' => exact q.elim
    | ct g' => exact q.elim
    | rt n d g' => exact fun v σ' S' H' r' vl x => q v σ' S' H' r' vl x
    | ex c g' => exact q
def KnG (P : Program) (w : World) (K : PySem.W.Frag) (mg : Str → Option Value) (base : Heap) (x : Str) (k np N : Nat) (F : MS) : Prop :=
  ∃ (f : Addr) (fd : FuncData) (ps : List Str), FnG P w K mg base (L2.CX P w) k f fd ps (spD K mg np N F) ∧ mg x = some (.ref f) ∧ PySem.W.keepIn K (.ref f) = true ∧ Binds K fd ps []
section
variable {X : Cx} {C : Cxt} {E : XK} {m : Bool} {k np N j : Nat} {F : MS} {fs : MA} {x nm : Str} {p pos pn : Pos} {e : Expr} {es : List Expr} {f : Addr} {fd : FuncData} {ps : List Str} {sp : Sp} {t : TA}
theorem run_G {pins : List (Addr × Obj)} {σ : L2.St} {H : Hp} {s : Shared} {Q : VK} {us : List Value} {vs : List V} (F : FnG X.prog X.w X.K X.mg X.base (L2.CX X.prog X.w) k f fd ps sp) (g : X.A.guards = some []) (hr : Room k X.A) (hb : Binds X.K fd ps []) (hx : Passes (L2.CX X.prog X.w) X E)
    (I : Inv X pins σ H s) (r : Vals vs us) (h : sp vs H Q E) : wpAny (model X.prog X.w) X.A (call (.ref f) us) (EP X pins σ Q) X.xe s := by
  have b := hb s us I.kIn (by rw [List.append_nil, ← r.length]; exact F.len _ _ _ _ h)
  rw [List.append_nil] at b
  refine wpAny_call (codeAny_mono (F.run X.A X.stack s H ⟨us, []⟩ us vs Q E g hr I.env0 b r h) fun z s2 q => ?_)
  rcases z with e | fl
  · exact hx pins σ H s e s2 I q
  · cases fl with
    | ret u => exact I.after q
    | next => exact q.elim
    | brk => exact q.elim
    | cont => exact q.elim
theorem pe_callG (F : FnG X.prog X.w X.K X.mg X.base (L2.CX X.prog X.w) k f fd ps sp) (g : X.A.guards = some []) (hr : Room k X.A) (hg : Gl X x) (hm : X.mg x = some (.ref f)) (hk : PySem.W.keepIn X.K (.ref f) = true) (hb : Binds X.K fd ps []) (hx : Passes (L2.CX X.prog X.w) X E)
    (ha : PA X (e :: es) t) (hdb : (x == ("__debug__" : Str)) = false) (he : starEach (e :: es) X.env = (false, eval e X.env) :: starEach es X.env) (hpl : (backTo pos (starEach es X.env)).any (·.1) = false) :
    PE X (.Call (.Name x p) (e :: es) [] pos) (tCall sp [] E t) :=
  ⟨fun pins s σ H Q I h => wpAny_Call_Name_kw (ld_glob I hg hm (PySem.W.callWith_K (h₀ := X.base) I.ok.mod.kin hk (thn (ha.run pos pins s σ H _ I h) fun us s1 ⟨vs, H1, I1, r, q⟩ => ⟨I1.kIn, run_G F g hr hb hx I1 r (by have w : sp (vs ++ []) H1 Q E := q; rw [List.append_nil] at w; exact w)⟩) he hpl) hdb)⟩
theorem e_callKGio (h : KnG X.prog X.w X.K X.mg X.base x k np N F) (g : X.A.guards = some []) (hr : Room k X.A) (hx : Passes (L2.CX X.prog X.w) X E) (hn : ∀ ds g g', fs g = some (.ok ds g') → ds.length + 1 = np) (hv : PE X (.Name nm pn) (tVar j)) (ha : PA X es (ta C E true fs)) (hg : Gl X x := by rfl) (hK : C.K = X.K := by rfl) (hM : C.mg = X.mg := by rfl)
    (hdb : (x == ("__debug__" : Str)) = false := by decide) (he : starEach ((.Name nm pn) :: es) X.env = (false, eval (.Name nm pn) X.env) :: starEach es X.env := by rfl) (hpl : (backTo pos (starEach es X.env)).any (·.1) = false := by rfl) :
    PE X (.Call (.Name x p) (.Name nm pn :: es) [] pos) (tv C E true (mCallIo j F N fs)) := by
  obtain ⟨f, fd, ps, G, h1, h2, h3⟩ := h
  have G' : FnG X.prog X.w X.K X.mg X.base (L2.CX X.prog X.w) k f fd ps (spD C.K C.mg np N F) := by rw [hK, hM]; exact G
  exact PE.imp (pe_callG G' g hr hg h1 h2 h3 hx (pa_cons hv ha he) hdb he hpl) fun _ _ _ => tv_callIo hn
end
section
variable {P : Program} {w : World} {K : PySem.W.Frag} {mg mb : Str → Option Value} {s : Shared} {a : Addr} {vs : List Value} {ns : List Int}
/-- what is tracked of the script: nothing, or its list, locked -/
structure Script (P : Program) (w : World) (K : PySem.W.Frag) (h : Heap) (a : Addr) (ns : List Int) (T : Hp) : Prop where
  only : Only T
  sq : SqL K T a (ns.map V.int)
  ok : HOk P w T h
  one : ∀ b, T b ≠ none → b = a
  out : T a ≠ none → K.lookup a = none
theorem script_at (kin : K.In s.heap) (ha : s.heap.get? a = some { cls := .type "list", data := .seq vs.toArray }) (hi : IntsAre vs ns) (hl : ns.length ≤ sizeLine) : ∃ T, Script P w K s.heap a ns T := by
  have rel := vals_ints hi
  have many := hi.length
  cases hk : K.lookup a with
  | some o =>
    have q := kin a o hk
    rw [ha] at q
    cases q
    exact ⟨fun _ => none, fun _ => .inl rfl, .inr ⟨_, vs.toArray, _, hk, rfl, rfl, rfl, by rw [List.size_toArray, many]; exact hl, by simpa using rel⟩, (fun _ _ z => nomatch z), (fun _ z => absurd rfl z), (fun z => absurd rfl z)⟩
  | none =>
    have sel : ∀ {b : Addr}, b ≠ a → upd (fun _ => none) a (.frz { cls := .type "list", data := .seq vs.toArray } (.lst (ns.map V.int))) b = none := fun q => upd_ne q
    refine ⟨upd (fun _ => none) a (.frz { cls := .type "list", data := .seq vs.toArray } (.lst (ns.map V.int))), fun b => ?_, .inl (.inr ⟨_, upd_same⟩), fun b u z => ?_, fun b z => ?_, fun _ => hk⟩
    · by_cases e : b = a
      · exact .inr ⟨_, _, by rw [e]; exact upd_same⟩
      · exact .inl (sel e)
    · by_cases e : b = a
      · subst e
        rw [upd_same] at z
        cases z
        exact ⟨ha, by rw [List.length_map]; exact hl, vs, _, rel, ha⟩
      · rw [sel e] at z; cases z
    · exact Classical.byContradiction fun e => z (sel e)
theorem law_G {CX : CXT} {k : Nat} {fa : Addr} {fd : FuncData} {x : Str} {sp : Sp} (kin : K.In s.heap) (names : s.heap.Ns mainGlobals mg) (bn : s.heap.Ns builtinsNs mb) (boot : ∀ x : Str, x ≠ "__name__" → mb x = bootBuiltins x) (lim : s.heap.NoLimit) (gens : s.gens = #[])
    (ha : s.heap.get? a = some { cls := .type "list", data := .seq vs.toArray }) (hi : IntsAre vs ns) (hl : ns.length ≤ sizeLine) (hr : Room k callerA)
    (F : ∀ base : Heap, K.In base → base.Ns mainGlobals mg → FnG P w K mg base CX k fa fd [x] sp) (hbind : ∀ (s : Shared) (u : Value), BindsTo s fd ⟨[u], []⟩ [(x, u)])
    (hsp : ∀ H : Hp, Only H → SqL K H a (ns.map V.int) → sp [.ref a] H (fun v _ => v = .bl true) fun _ _ _ => False)
    (hCX : ∀ H e s', CX [] H s (fun _ _ _ => False) e s' → False) :
    codeAny (model P w) callerA (.call (.ref fa) ⟨[.ref a], []⟩) (fun r s' => r = .ok (.ret (.bool true)) ∧ OldK s.heap s'.heap ∧ s'.os = s.os ∧ AllBare s'.gens) s := by
  obtain ⟨T, S⟩ := script_at (P := P) (w := w) kin ha hi hl
  -- the heap without the script is the base
  have dict : ∀ {b : Addr} {o : Obj} {es : Array DictEntry} {ep : Nat}, s.heap.get? b = some o → o.data = .dict es ep → T b = none := fun {b o es ep} q d => by
    refine Classical.byContradiction fun z => ?_
    rw [S.one b z, ha] at q
    cases q
    cases (show Data.seq vs.toArray _ = Data.dict es ep from d)
  have ns' : ∀ {b : Addr} {m : Str → Option Value}, s.heap.Ns b m → (hidT s.heap T).Ns b m := fun {b m} ⟨o, es, ep, q, d, r⟩ => ⟨o, es, ep, hidT_get q (dict q d), d, r⟩
  have kin' : K.In (hidT s.heap T) := fun b o q => hidT_get (kin b o q) (Classical.byContradiction fun z => by
    have w := S.one b z
    subst w
    rw [S.out z] at q
    cases q)
  have e0 : Env0 P w K mg (hidT s.heap T) callerA [] s T := ⟨rfl, ⟨kin', ns' names, ⟨mb, ns' bn, boot⟩, let ⟨mc, h1, h2⟩ := lim; ⟨mc, ns' h1, h2⟩⟩, fun _ _ q => of_hidT q, Nat.le_of_eq (hidT_size _ _), trivial, (fun _ z => nomatch z), S.ok, .of_eq gens⟩
  refine codeAny_mono ((F _ kin' (ns' names)).run callerA [] s T ⟨[.ref a], []⟩ [.ref a] [.ref a] _ _ rfl hr e0 (hbind s (.ref a)) (.cons rfl .nil) (hsp T S.only S.sq)) fun r s2 h => ?_
  rcases r with e | fl
  · exact (hCX T e s2 h).elim
  cases fl with
  | next => exact False.elim h
  | brk => exact False.elim h
  | cont => exact False.elim h
  | ret u =>
    obtain ⟨v, T2, os, bare, un, ok2, rel, q⟩ := h
    cases (show v = .bl true from q)
    cases (show u = Value.bool true from rel)
    refine ⟨rfl, OldK.of_keep fun b o g => ?_, os, bare⟩
    rcases S.only b with z | ⟨ob, xs, z⟩
    · exact un.keep b o g z (fun w => nomatch w) (fun w => nomatch w)
    · obtain ⟨g1, _⟩ := S.ok b _ z
      obtain ⟨g2, _⟩ := ok2 b _ (un.frzs b ob _ z)
      rw [g] at g1
      cases g1
      exact g2
end
theorem walkDG {l : PySem.W.OpenLaw} {lvl N : Nat} {F : MS} {q : Program} {loose : List Str} {XP : (Str → Option Value) → Heap → Prop} {YP : World → Heap → Prop} {d : DefRec} {K : Params → PySem.W.Frag}
    (hn : l.most = some 63) (hdf : d.params.defaults = []) (pure : ∀ ns : List Int, ns.length ≤ 63 → ∃ n g', finD (F (argsG [.im (.ro ns)] N)) = some (.rt n (.bl true) g')) (hr : Room lvl callerA)
    (hY : ∀ (w : World) (h : Heap), YP w h → (K w.params).In h)
    (FF : ∀ (w : World) (mg : Str → Option Value) (fa : Addr) (h : Heap), (K w.params).In h → h.Ns mainGlobals mg → mg d.name = some (.ref fa) →
      ∃ fd : FuncData, (∀ (s : Shared) (u : Value), BindsTo s fd ⟨[u], []⟩ [("script", u)]) ∧ ∀ base : Heap, (K w.params).In base → base.Ns mainGlobals mg → FnG l.prog w (K w.params) mg base (L2.CX l.prog w) lvl fa fd ["script"] (spD (K w.params) mg 1 N F)) :
    PySem.W.WalkO q loose XP YP l.row.toRowW d [] (fun f vs => PySem.call f vs) := by
  refine Att.attach_call hn hdf fun w s₀ s mg mb fa o pm cd doc a vs ns G Y ho hd hcd hmg hobj hints hlen hg => ?_
  have kin := hY w _ Y
  obtain ⟨fd, bind, run⟩ := FF w mg fa _ kin G.T.g hmg
  exact law_G kin G.T.g G.T.b G.T.builtins G.T.nolimit hg hobj hints (Nat.le_trans hlen (by decide)) hr (fun base h1 h2 => (run base h1 h2).imp (sp_law pure)) bind
    (fun H hO hS => ⟨a, ns, rfl, hlen, hO, hS, fun _ => rfl⟩) fun H e s2 h => by
      obtain ⟨_, _, _, _, _, _, _, _, _, _, _, _, z⟩ := h
      exact z
end TL
set_option Elab.async false
set_option linter.all false
set_option maxRecDepth 100000
set_option maxHeartbeats 4000000
namespace TL
open PySem PySem.Spec PyProof.Rows L2
section
variable {K : PySem.W.Frag}
end
end TL
set_option Elab.async false
set_option linter.all false
set_option maxRecDepth 100000
set_option maxHeartbeats 4000000
namespace TL
open PySem PySem.Spec PyProof.Rows L2
section
variable {X : Cx} {e : Expr}
end
section
variable {X : Cx} {C : Cxt} {E : XK} {m : Bool} {pos : Pos} {e : Expr} {f : MF}
end
end TL
set_option Elab.async false
set_option linter.all false
set_option maxRecDepth 100000
set_option maxHeartbeats 4000000
namespace TL
open PySem PySem.Spec PyProof.Rows L2
section
variable {C : Cxt} {S : AS} {g : G} {σ : L2.St} {H : Hp} {i : Nat} {a : Addr} {o : HO}
end
section
variable {X : Cx} {C : Cxt} {E : XK} {σ : L2.St} {H : Hp} {i : Nat}
end
end TL
set_option Elab.async false
set_option linter.all false
set_option maxRecDepth 100000
set_option maxHeartbeats 4000000
namespace TL
open PySem PySem.Spec PyProof.Rows L2
section
variable {prog : Program} {w : World} {h : Heap}
theorem allK_more {A B : List Addr} {d e : Nat} (hA : ∀ b ∈ A, b ∈ B) (hd : d ≤ e) : ∀ {vs : List Value} {ts : List Str}, ReprAllK prog w A h d vs ts → ReprAllK prog w B h e vs ts
  | _, _, .nil => .nil
  | _, _, .cons a b => .cons ((a.more hA).level_le hd) (allK_more hA hd b)
theorem allK_get {A : List Addr} {d : Nat} : ∀ {vs : List Value} {ts : List Str}, ReprAllK prog w A h d vs ts → ts.length = vs.length ∧ ∀ (i : Nat) (y : Value), vs[i]? = some y → ∃ t, ts[i]? = some t ∧ ReprK prog w A h d y t
  | _, _, .nil => ⟨rfl, fun i y q => by cases q⟩
  | _, _, .cons a b => by
    have ih := allK_get b
    refine ⟨congrArg Nat.succ ih.1, fun i y q => ?_⟩
    cases i with
    | zero => cases q; exact ⟨_, rfl, a⟩
    | succ i => exact ih.2 i y q
end
section
variable {X : Cx}
end
end TL
set_option Elab.async false
set_option linter.all false
set_option maxRecDepth 100000
set_option maxHeartbeats 4000000
namespace TL
open PySem PySem.Spec PyProof.Rows L2 PySem.W
mutual
/-- py, where nothing in it is a list that is only read -/
def pyS : D → Option PyData
  | .non => some .none
  | .bl b => some (.bool b)
  | .int i => some (.int i)
  | .str s => some (.str s)
  | .lst xs => match pyLS xs with
    | some ps => some (.list ps)
    | none => none
  | .tup xs => match pyLS xs with
    | some ps => some (.tuple ps)
    | none => none
  | .ro _ => none
  | .ob _ => none
  | .exc _ => none
  | .cls _ => none
  | .dit _ => none
  | .dic _ => none
def pyLS : List D → Option (List PyData)
  | [] => some []
  | d :: ds => match pyS d, pyLS ds with
    | some p, some ps => some (p :: ps)
    | _, _ => none
end
mutual
def unpy : PyData → D
  | .none => .non
  | .bool b => .bl b
  | .int i => .int i
  | .str s => .str s
  | .list ps => .lst (unpyL ps)
  | .tuple ps => .tup (unpyL ps)
  | .dict _ => .non
def unpyL : List PyData → List D
  | [] => []
  | p :: ps => unpy p :: unpyL ps
end
mutual
theorem pyS_back : ∀ (d : D) (p : PyData), pyS d = some p → d = unpy p ∧ py d = some p
  | .non, _, e => by cases e; exact ⟨rfl, rfl⟩
  | .bl _, _, e => by cases e; exact ⟨rfl, rfl⟩
  | .int _, _, e => by cases e; exact ⟨rfl, rfl⟩
  | .str _, _, e => by cases e; exact ⟨rfl, rfl⟩
  | .ob _, _, e => by cases e
  | .exc _, _, e => by cases e
  | .cls _, _, e => by cases e
  | .dit _, _, e => by cases e
  | .dic _, _, e => by cases e
  | .ro _, _, e => by cases e
  | .lst ds, _, e => by
    unfold pyS at e
    split at e
    · rename_i ps hp
      cases e
      obtain ⟨h1, h2⟩ := pyLS_back ds ps hp
      exact ⟨by rw [unpy, ← h1], by unfold py; rw [h2]⟩
    · cases e
  | .tup ds, _, e => by
    unfold pyS at e
    split at e
    · rename_i ps hp
      cases e
      obtain ⟨h1, h2⟩ := pyLS_back ds ps hp
      exact ⟨by rw [unpy, ← h1], by unfold py; rw [h2]⟩
    · cases e
theorem pyLS_back : ∀ (ds : List D) (ps : List PyData), pyLS ds = some ps → ds = unpyL ps ∧ pyL ds = some ps
  | [], _, e => by cases e; exact ⟨rfl, rfl⟩
  | d :: ds, _, e => by
    unfold pyLS at e
    split at e
    · rename_i p ps h1 h2
      cases e
      obtain ⟨a1, a2⟩ := pyS_back d p h1
      obtain ⟨b1, b2⟩ := pyLS_back ds ps h2
      exact ⟨by rw [unpyL, ← a1, ← b1], by unfold pyL; rw [a2, b2]⟩
    · cases e
end
section
variable {K : PySem.W.Frag} {S : Addr → Prop} {H : Hp}
theorem trl_each : ∀ {xs : List V} {ps : List PyData}, TrL K S H xs (unpyL ps) → EachIs (fun x p => Tr K S H x (unpy p)) xs ps
  | _, [], t => by cases t; exact .nil
  | _, p :: ps, t => by
    cases t with
    | cons h t => exact .cons h (trl_each t)
theorem each_get {α β : Type} {R : α → β → Prop} : ∀ {xs : List α} {ps : List β}, EachIs R xs ps → ∀ (i : Nat) (x : α) (p : β), xs[i]? = some x → ps[i]? = some p → R x p
  | _, _, .nil, i, x, p, h, _ => by cases h
  | _, _, .cons h t, 0, x, p, h1, h2 => by cases h1; cases h2; exact h
  | _, _, .cons h t, i + 1, x, p, h1, h2 => each_get t i x p h1 h2
theorem vals_get : ∀ {xs : List V} {us : List Value}, Vals xs us → ∀ (i : Nat) (u : Value), us[i]? = some u → ∃ x, xs[i]? = some x ∧ RelV x u
  | _, _, .nil, i, u, h => by cases h
  | _, _, .cons r rs, 0, u, h => by cases h; exact ⟨_, rfl, r⟩
  | _, _, .cons r rs, i + 1, u, h => vals_get rs i u h
end
def rMinG (K : PySem.W.Frag) : List V → Hp → VK → Prop := fun vs H Q => ∃ (a : Addr) (xs : List V) (p : PyData) (ps : List PyData), vs = [V.ref a] ∧ SqL K H a xs ∧ DpAll K H xs (p :: ps) ∧ AlikeAll (p :: ps) ∧ PyData.depthAll (p :: ps) ≤ 40 ∧
  ∀ (i : Nat) x, xs[i]? = some x → (p :: ps)[i]? = some (minD p ps) → Q x H
section
variable {X : Cx}
theorem min_at (I : Inv X pins σ H s) {xs : List V} {its : List Value} {ps : List PyData} {as : List Addr} {m : PyData} {i : Nat} {v : Value} {h' : Heap} {bs : List Addr} (rv : Vals xs its) (ra : ReadsAll s.heap its ps as) (hv : its[i]? = some v) (hr : Reads h' v m bs) (hk : ∀ b o, s.heap.get? b = some o → h'.get? b = some o) :
    ∃ x, xs[i]? = some x ∧ RelV x v ∧ ps[i]? = some m := by
  obtain ⟨x, hx, rx⟩ := vals_get rv i v hv
  refine ⟨x, hx, rx, ?_⟩
  obtain ⟨cs, r, hlt, _, _⟩ := readsAll_at ra i v hv
  have e := (reads_det (h := s.heap) (h' := h') (fun b o z _ => hk b o z) r hr).1
  rw [List.getElem?_eq_getElem hlt, e]
  congr 1
  rw [List.getD_eq_getElem?_getD, List.getElem?_eq_getElem hlt]
  rfl
theorem cr_minG (hc : X.calm = true) (hu : X.A.units + 64 < cLine) : CallR X (.builtin "min") (rMinG X.K) := by
  intro pins s σ H vs us Q I r h
  obtain ⟨a, xs, p, ps, rfl, hs, hd, hal, hdep, q⟩ := h
  obtain ⟨its, rv, hl, hz⟩ := I.list hs
  obtain ⟨u, rfl, ru⟩ := vals1 r
  obtain rfl : u = Value.ref a := ru
  obtain ⟨as, ra⟩ := Dp.readsAll I (p :: ps) xs its hd rv
  refine min_list_data (I.ok.hd hc) hl.isList (by exact ra) hal (by omega) fun i v h' tk bs hv hr hk => ?_
  obtain ⟨x, hx, rx, hp⟩ := min_at I rv ra (by simpa using hv) hr hk
  exact ⟨x, H, I.kept hk, rx, q i x hx hp⟩
end
def alikeB (ps : List PyData) : Bool := ps.all fun p => ps.all fun q => alike p q
def notNone : PyData → Bool
  | .none => false
  | _ => true
def minOk (ps : List PyData) : Bool := alikeB ps && (ps.all notNone && decide (PyData.depthAll ps ≤ 40))
def minG : List D → Option (Bool × D)
  | [.lst ds] => match pyLS ds with
    | some (p :: ps) => if minOk (p :: ps) = true then some (false, unpy (minD p ps)) else none
    | _ => none
  | _ => none
theorem alikeB_all {ps : List PyData} (h : alikeB ps = true) : ∀ x ∈ ps, ∀ y ∈ ps, alike x y = true := fun x hx y hy => List.all_eq_true.mp (List.all_eq_true.mp h x hx) y hy
theorem minOk_all {ps : List PyData} (h : minOk ps = true) : AlikeAll ps ∧ PyData.depthAll ps ≤ 40 := by
  unfold minOk at h
  rw [Bool.and_eq_true, Bool.and_eq_true, decide_eq_true_eq] at h
  refine ⟨⟨alikeB_all h.1, fun x hx e => ?_⟩, h.2.2⟩
  have z := List.all_eq_true.mp h.2.1 x hx
  rw [e] at z
  cases z
section
variable {K : PySem.W.Frag}
theorem l_minG : LC K (rMinG K) minG := fun S H xs ds n z Q dm t ho k => by
  unfold minG at ho
  split at ho
  · rename_i es
    split at ho
    · rename_i p ps hp
      split at ho
      · rename_i ok
        obtain ⟨v, rfl, tv⟩ := trl1 t
        obtain ⟨a, vs, rfl, ha, tl⟩ := lst_sq tv
        obtain ⟨e1, e2⟩ := pyLS_back _ _ hp
        obtain ⟨h1, h2⟩ := minOk_all ok
        refine ⟨a, vs, p, ps, rfl, SqL.of ha, dp_ofL _ _ _ tl e2, h1, h2, fun i x hx hm => ?_⟩
        rw [e1] at tl
        exact fin1 ho (each_get (trl_each tl) i x _ hx hm) k
      · cases ho
    · cases ho
  · cases ho
end
end TL
set_option Elab.async false
set_option linter.all false
set_option maxRecDepth 100000
set_option maxHeartbeats 4000000
namespace TL
open PySem PySem.Spec PyProof.Rows L2 PySem.W
end TL
set_option Elab.async false
set_option linter.all false
set_option maxRecDepth 100000
set_option maxHeartbeats 4000000
namespace TL
open PySem PySem.Spec PyProof.Rows L2
section
variable {X : Cx}
variable {C : Cxt} {E : XK} {m : Bool} {f : MF}
end
end TL
set_option Elab.async false
set_option linter.all false
set_option maxRecDepth 100000
set_option maxHeartbeats 4000000
namespace TL
open PySem PySem.Spec PyProof.Rows L2

def WE (f : MF) (g : G) (P : Bool → D → G → Prop) : Prop := ∃ n d g', f g = some (.ok n d g') ∧ P n d g'
def WA (f : MA) (g : G) (P : List D → G → Prop) : Prop := ∃ ds g', f g = some (.ok ds g') ∧ P ds g'
def WS (F : MS) (g : G) (P : Rt → Prop) : Prop := ∃ r, F g = some r ∧ P r
/-- an operation's answer -/
def WO (o : Option (Bool × D)) (P : Bool → D → Prop) : Prop := ∃ n z, o = some (n, z) ∧ P n z
theorem WE.mono {f : MF} {g : G} {P P' : Bool → D → G → Prop} (h : WE f g P) (k : ∀ n d g', P n d g' → P' n d g') : WE f g P' := by
  obtain ⟨n, d, g', e, p⟩ := h
  exact ⟨n, d, g', e, k _ _ _ p⟩
theorem WS.mono {F : MS} {g : G} {P P' : Rt → Prop} (h : WS F g P) (k : ∀ r, P r → P' r) : WS F g P' := by
  obtain ⟨r, e, p⟩ := h
  exact ⟨r, e, k _ p⟩
section
variable {f f1 f2 f3 c : MF} {fs : MA} {g : G} {P : Bool → D → G → Prop} {PA : List D → G → Prop} {R : Rt → Prop} {F F1 F2 : MS} {i N : Nat} {d : D} {o o' : D → D → Option (Bool × D)}
theorem we_c : WE (mC d) g P ↔ P false d g := ⟨fun ⟨_, _, _, e, p⟩ => by cases e; exact p, fun p => ⟨_, _, _, rfl, p⟩⟩
/-- a slot's data -/
def imAt (g : G) (i : Nat) : Option D := match g[i]? with
  | some (.im d) => some d
  | _ => none
theorem we_var : WE (mVar i) g P ↔ ∃ d, imAt g i = some d ∧ P false d g := by
  unfold WE mVar imAt
  constructor
  · rintro ⟨n, d, g', e, p⟩
    try dsimp only at e
    split at e
    · rename_i q
      cases e; exact ⟨_, by first | rw [q] | rfl, p⟩
    · cases e
  · rintro ⟨d, e, p⟩
    split at e
    · rename_i q
      cases e; exact ⟨_, _, _, by simp only [q], p⟩
    · cases e
theorem we_then {k : Bool → D → MF} : WE (andThen f k) g P ↔ WE f g fun n d g1 => WE (k n d) g1 P := by
  unfold WE andThen
  constructor
  · rintro ⟨n, d, g', e, p⟩
    cases q : f g with
    | none => rw [q] at e; cases e
    | some z =>
      rw [q] at e
      cases z with
      | ok n1 d1 g1 => exact ⟨_, _, _, rfl, _, _, _, e, p⟩
      | ex c g1 => cases e
  · rintro ⟨n, d, g', e, n2, d2, g2, e2, p⟩
    exact ⟨n2, d2, g2, by rw [e]; exact e2, p⟩
theorem we_o {o : Option (Bool × D)} : WE (fun g => match o with
    | some (n, z) => some (.ok n z g)
    | none => none) g P ↔ WO o fun n z => P n z g := by
  unfold WE WO
  constructor
  · rintro ⟨n, d, g', e, p⟩
    cases o with
    | none => cases e
    | some z => obtain ⟨n1, z⟩ := z; cases e; exact ⟨_, _, rfl, p⟩
  · rintro ⟨n, z, e, p⟩
    subst e
    exact ⟨_, _, _, rfl, p⟩
theorem we_bin : WE (mBin o f1 f2) g P ↔ WE f1 g fun _ d g1 => WE f2 g1 fun _ e g2 => WO (o d e) fun n z => P n z g2 := by
  unfold mBin
  rw [we_then]
  constructor
  · intro h
    refine h.mono fun n d g1 h => ?_
    rw [we_then] at h
    exact h.mono fun n d g1 h => we_o.mp h
  · intro h
    refine h.mono fun n d g1 h => ?_
    rw [we_then]
    exact h.mono fun n d g1 h => we_o.mpr h
theorem we_un {o : D → Option (Bool × D)} : WE (mUn o f) g P ↔ WE f g fun _ d g1 => WO (o d) fun n z => P n z g1 := by
  unfold mUn
  rw [we_then]
  exact ⟨fun h => h.mono fun n d g1 h => we_o.mp h, fun h => h.mono fun n d g1 h => we_o.mpr h⟩
/-- a truth -/
def WT (d : D) (P : Bool → Prop) : Prop := ∃ b, truth d = some b ∧ P b
theorem wt_bl {b : Bool} {P : Bool → Prop} : WT (.bl b) P ↔ P b := ⟨fun ⟨_, e, p⟩ => by cases e; exact p, fun p => ⟨b, rfl, p⟩⟩
theorem we_bool : WE (mBool f) g P ↔ WE f g fun _ d g1 => ∃ b, d = .bl b ∧ P false (.bl b) g1 := by
  unfold mBool
  rw [we_then]
  constructor
  · intro h
    refine h.mono fun n d g1 h => ?_
    obtain ⟨n2, d2, g2, e, p⟩ := h
    cases d with
    | bl b => cases e; exact ⟨b, rfl, p⟩
    | _ => cases e
  · intro h
    refine h.mono fun n d g1 h => ?_
    obtain ⟨b, rfl, p⟩ := h
    exact ⟨_, _, _, rfl, p⟩
theorem we_andT : WE (mAndT f1 f2) g P ↔ WE f1 g fun _ d g1 => WT d fun b => if b = true then WE f2 g1 P else P false (.bl false) g1 := by
  unfold mAndT
  rw [we_then]
  constructor
  · intro h
    refine h.mono fun n d g1 h => ?_
    obtain ⟨n2, d2, g2, e, p⟩ := h
    cases q : truth d with
    | none => simp only [q] at e; cases e
    | some b =>
      simp only [q] at e
      refine ⟨b, q, ?_⟩
      cases b with
      | true => exact ⟨_, _, _, e, p⟩
      | false => cases e; exact p
  · intro h
    refine h.mono fun n d g1 h => ?_
    obtain ⟨b, q, h⟩ := h
    cases b with
    | true =>
      obtain ⟨n2, d2, g2, e, p⟩ := (show WE f2 g1 P from h)
      exact ⟨n2, d2, g2, by simp only [q]; exact e, p⟩
    | false => exact ⟨_, _, _, by simp only [q], h⟩
theorem we_orT : WE (mOrT f1 f2) g P ↔ WE f1 g fun _ d g1 => WT d fun b => if b = true then P false (.bl true) g1 else WE f2 g1 P := by
  unfold mOrT
  rw [we_then]
  constructor
  · intro h
    refine h.mono fun n d g1 h => ?_
    obtain ⟨n2, d2, g2, e, p⟩ := h
    cases q : truth d with
    | none => simp only [q] at e; cases e
    | some b =>
      simp only [q] at e
      refine ⟨b, q, ?_⟩
      cases b with
      | false => exact ⟨_, _, _, e, p⟩
      | true => cases e; exact p
  · intro h
    refine h.mono fun n d g1 h => ?_
    obtain ⟨b, q, h⟩ := h
    cases b with
    | false =>
      obtain ⟨n2, d2, g2, e, p⟩ := (show WE f2 g1 P from h)
      exact ⟨n2, d2, g2, by simp only [q]; exact e, p⟩
    | true => exact ⟨_, _, _, by simp only [q], h⟩
theorem we_notT : WE (mNotT f) g P ↔ WE f g fun _ d g1 => WT d fun b => P false (.bl (!b)) g1 := by
  unfold mNotT
  rw [we_then]
  constructor
  · intro h
    refine h.mono fun n d g1 h => ?_
    obtain ⟨n2, d2, g2, e, p⟩ := h
    cases q : truth d with
    | none => simp only [q] at e; cases e
    | some b => simp only [q] at e; cases e; exact ⟨b, q, p⟩
  · intro h
    refine h.mono fun n d g1 h => ?_
    obtain ⟨b, q, h⟩ := h
    exact ⟨_, _, _, by simp only [q], h⟩
theorem we_andV : WE (mAndV f1 f2) g P ↔ WE f1 g fun _ d g1 => ∃ b, d = .bl b ∧ if b = true then WE f2 g1 P else P false (.bl false) g1 := by
  unfold mAndV
  rw [we_then]
  constructor
  · intro h
    refine h.mono fun n d g1 h => ?_
    obtain ⟨n2, d2, g2, e, p⟩ := h
    cases d with
    | bl b =>
      refine ⟨b, rfl, ?_⟩
      cases b with
      | true => exact ⟨_, _, _, e, p⟩
      | false => cases e; exact p
    | _ => cases e
  · intro h
    refine h.mono fun n d g1 h => ?_
    obtain ⟨b, rfl, h⟩ := h
    cases b with
    | true => exact h
    | false => exact ⟨_, _, _, rfl, h⟩
theorem we_orV : WE (mOrV f1 f2) g P ↔ WE f1 g fun _ d g1 => ∃ b, d = .bl b ∧ if b = true then P false (.bl true) g1 else WE f2 g1 P := by
  unfold mOrV
  rw [we_then]
  constructor
  · intro h
    refine h.mono fun n d g1 h => ?_
    obtain ⟨n2, d2, g2, e, p⟩ := h
    cases d with
    | bl b =>
      refine ⟨b, rfl, ?_⟩
      cases b with
      | false => exact ⟨_, _, _, e, p⟩
      | true => cases e; exact p
    | _ => cases e
  · intro h
    refine h.mono fun n d g1 h => ?_
    obtain ⟨b, rfl, h⟩ := h
    cases b with
    | false => exact h
    | true => exact ⟨_, _, _, rfl, h⟩
theorem we_notV : WE (mNotV f) g P ↔ WE f g fun _ d g1 => ∃ b, d = .bl b ∧ P false (.bl (!b)) g1 := by
  unfold mNotV
  rw [we_then]
  constructor
  · intro h
    refine h.mono fun n d g1 h => ?_
    obtain ⟨n2, d2, g2, e, p⟩ := h
    cases d with
    | bl b => cases e; exact ⟨b, rfl, p⟩
    | _ => cases e
  · intro h
    refine h.mono fun n d g1 h => ?_
    obtain ⟨b, rfl, h⟩ := h
    exact ⟨_, _, _, rfl, h⟩
theorem we_if : WE (mIf c f1 f2) g P ↔ WE c g fun _ d g1 => WT d fun b => if b = true then WE f1 g1 P else WE f2 g1 P := by
  unfold mIf
  rw [we_then]
  constructor
  · intro h
    refine h.mono fun n d g1 h => ?_
    obtain ⟨n2, d2, g2, e, p⟩ := h
    cases q : truth d with
    | none => simp only [q] at e; cases e
    | some b =>
      simp only [q] at e
      refine ⟨b, q, ?_⟩
      cases b <;> exact ⟨_, _, _, e, p⟩
  · intro h
    refine h.mono fun n d g1 h => ?_
    obtain ⟨b, q, h⟩ := h
    cases b with
    | true =>
      obtain ⟨n2, d2, g2, e, p⟩ := (show WE f1 g1 P from h)
      exact ⟨n2, d2, g2, by simp only [q]; exact e, p⟩
    | false =>
      obtain ⟨n2, d2, g2, e, p⟩ := (show WE f2 g1 P from h)
      exact ⟨n2, d2, g2, by simp only [q]; exact e, p⟩
theorem WA.mono {P' : List D → G → Prop} (h : WA fs g PA) (k : ∀ d g', PA d g' → P' d g') : WA fs g P' := by
  obtain ⟨d, g', e, p⟩ := h
  exact ⟨d, g', e, k _ _ p⟩
theorem wa_nil : WA aNil g PA ↔ PA [] g := ⟨fun ⟨_, _, e, p⟩ => by cases e; exact p, fun p => ⟨_, _, rfl, p⟩⟩
theorem wa_cons : WA (aCons f fs) g PA ↔ WE f g fun _ d g1 => WA fs g1 fun ds g2 => PA (d :: ds) g2 := by
  unfold WA WE aCons
  constructor
  · rintro ⟨ds, g', e, p⟩
    cases q : f g with
    | none => rw [q] at e; cases e
    | some z =>
      rw [q] at e
      cases z with
      | ex c g1 => cases e
      | ok n d g1 =>
        simp only at e
        cases q2 : fs g1 with
        | none => rw [q2] at e; cases e
        | some z =>
          rw [q2] at e
          cases z with
          | ex c g1 => cases e
          | ok ds g2 => cases e; exact ⟨_, _, _, rfl, _, _, q2, p⟩
  · rintro ⟨n, d, g1, e, ds, g2, e2, p⟩
    exact ⟨_, _, by rw [e]; simp only; rw [e2], p⟩
theorem we_args {k : List D → MF} : WE (aThen fs k) g P ↔ WA fs g fun ds g1 => WE (k ds) g1 P := by
  unfold WA WE aThen
  constructor
  · rintro ⟨n, d, g', e, p⟩
    cases q : fs g with
    | none => rw [q] at e; cases e
    | some z =>
      rw [q] at e
      cases z with
      | ex c g1 => cases e
      | ok ds g1 => exact ⟨_, _, rfl, _, _, _, e, p⟩
  · rintro ⟨ds, g1, e, n, d, g', e2, p⟩
    exact ⟨_, _, _, by rw [e]; exact e2, p⟩
theorem we_lst : WE (mLst fs) g P ↔ WA fs g fun ds g1 => ds.length ≤ sizeLine ∧ P true (.lst ds) g1 := by
  unfold mLst
  rw [we_args]
  constructor
  · intro h
    refine h.mono fun ds g1 h => ?_
    obtain ⟨n, d, g', e, p⟩ := h
    split at e
    · rename_i hz; cases e; exact ⟨hz, p⟩
    · cases e
  · intro h
    refine h.mono fun ds g1 h => ?_
    exact ⟨_, _, _, if_pos h.1, h.2⟩
theorem we_tup : WE (mTup fs) g P ↔ WA fs g fun ds g1 => ds.length ≤ sizeLine ∧ P false (.tup ds) g1 := by
  unfold mTup
  rw [we_args]
  constructor
  · intro h
    refine h.mono fun ds g1 h => ?_
    obtain ⟨n, d, g', e, p⟩ := h
    split at e
    · rename_i hz; cases e; exact ⟨hz, p⟩
    · cases e
  · intro h
    refine h.mono fun ds g1 h => ?_
    exact ⟨_, _, _, if_pos h.1, h.2⟩
theorem we_B {o : List D → Option (Bool × D)} : WE (mB o fs) g P ↔ WA fs g fun ds g1 => WO (o ds) fun n z => P n z g1 := by
  unfold mB
  rw [we_args]
  exact ⟨fun h => h.mono fun ds g1 h => we_o.mp h, fun h => h.mono fun ds g1 h => we_o.mpr h⟩
theorem we_M {T : String} {o : D → List D → Option (Bool × D)} : WE (mM T o f fs) g P ↔ WE f g fun _ d g1 => isTy T d = true ∧ WA fs g1 fun ds g2 => WO (o d ds) fun n z => P n z g2 := by
  unfold mM
  rw [we_then]
  constructor
  · intro h
    refine h.mono fun n d g1 h => ?_
    by_cases q : isTy T d = true
    · rw [if_pos q, we_args] at h
      exact ⟨q, h.mono fun ds g2 h => we_o.mp h⟩
    · rw [if_neg q] at h
      obtain ⟨_, _, _, e, _⟩ := h
      cases e
  · intro h
    refine h.mono fun n d g1 h => ?_
    rw [if_pos h.1, we_args]
    exact h.2.mono fun ds g2 h => we_o.mpr h
/-- a def's answer -/
def WC (F : MS) (N : Nat) (ds : List D) (P : Bool → D → Prop) : Prop := ∃ n d g', callM F N ds = some (.rt n d g') ∧ P n d
theorem we_call : WE (mCall F N fs) g P ↔ WA fs g fun ds g1 => WC F N ds fun n d => P n d g1 := by
  unfold mCall
  rw [we_args]
  constructor
  · intro h
    refine h.mono fun ds g1 h => ?_
    obtain ⟨n, d, g', e, p⟩ := h
    split at e
    · rename_i q; cases e; exact ⟨_, _, _, q, p⟩
    · cases e
    · cases e
  · intro h
    refine h.mono fun ds g1 h => ?_
    obtain ⟨n, d, g', e, p⟩ := h
    exact ⟨n, d, g1, by simp only [e], p⟩
/-- .. with an object lent -/
def WCio (F : MS) (N : Nat) (dj : D) (ds : List D) (P : Bool → D → D → Prop) : Prop := ∃ n d g' d', finD (F (argsG (.io dj :: ds.map .im) N)) = some (.rt n d g') ∧ io0 g' = some d' ∧ P n d d'
theorem we_callIo : WE (mCallIo i F N fs) g P ↔ (∃ d0, mutOf g i = some d0) ∧ WA fs g fun ds g1 => ∃ dj, mutOf g1 i = some dj ∧ WCio F N dj ds fun n d d' => ∃ g2, putMut i d' g1 = some g2 ∧ P n d g2 := by
  unfold mCallIo
  constructor
  · rintro ⟨n, d, g', e, p⟩
    try dsimp only at e
    cases q : mutOf g i with
    | none => rw [q] at e; cases e
    | some d0 =>
      rw [q] at e
      refine ⟨⟨d0, rfl⟩, ?_⟩
      have h : WE (aThen fs _) g P := ⟨n, d, g', e, p⟩
      rw [we_args] at h
      refine h.mono fun ds g1 h => ?_
      obtain ⟨n, d, g', e, p⟩ := h
      cases q1 : mutOf g1 i with
      | none => simp only [q1] at e; cases e
      | some dj =>
        simp only [q1] at e
        refine ⟨dj, rfl, ?_⟩
        split at e
        · rename_i q2
          split at e
          · rename_i d' q3
            cases q4 : putMut i d' g1 with
            | none => simp only [q4] at e; cases e
            | some g2 =>
              simp only [q4] at e
              cases e
              exact ⟨_, _, _, d', q2, q3, _, q4, p⟩
          · cases e
        · split at e
          · split at e
            · cases e
            · cases e
          · cases e
        · cases e
  · rintro ⟨⟨d0, q⟩, ds, g1, e, dj, q1, n, d, g', d', q2, q3, g2, q4, p⟩
    refine ⟨n, d, g2, ?_, p⟩
    simp only [q, aThen, e, q1, q2, q3, q4]
theorem we_frz : WE (mFrz i f) g P ↔ ∃ d, g[i]? = some (.mu d) ∧ WE f (g.set i (.im d)) fun _ r _ => flat? r = true ∧ P false r g := by
  unfold mFrz
  constructor
  · rintro ⟨n, d, g', e, p⟩
    try dsimp only at e
    split at e
    · rename_i d0 q
      refine ⟨d0, q, ?_⟩
      split at e
      · rename_i r _ q2
        split at e
        · rename_i hf
          cases e
          exact ⟨_, _, _, q2, hf, p⟩
        · cases e
      · cases e
    · cases e
  · rintro ⟨d0, q, n, r, g', e, hf, p⟩
    exact ⟨false, r, g, by simp only [q, e, if_pos hf], p⟩
theorem we_rd {fi : MF} : WE (mRd i o fi) g P ↔ (∃ d0, mutOf g i = some d0) ∧ WE fi g fun _ di g1 => ∃ d, mutOf g1 i = some d ∧ WO (o d di) fun _ r => flat? r = true ∧ P false r g1 := by
  unfold mRd
  constructor
  · rintro ⟨n, d, g', e, p⟩
    try dsimp only at e
    cases q : mutOf g i with
    | none => rw [q] at e; cases e
    | some d0 =>
      rw [q] at e
      refine ⟨⟨d0, rfl⟩, ?_⟩
      have h : WE (andThen fi _) g P := ⟨n, d, g', e, p⟩
      rw [we_then] at h
      refine h.mono fun n di g1 h => ?_
      obtain ⟨n, d, g', e, p⟩ := h
      try dsimp only at e
      split at e
      · rename_i d1 q1
        refine ⟨d1, q1, ?_⟩
        split at e
        · rename_i r q2
          split at e
          · rename_i hf
            cases e
            exact ⟨_, _, q2, hf, p⟩
          · cases e
        · cases e
      · cases e
  · rintro ⟨⟨d0, q⟩, n, di, g1, e, d, q1, n2, r, q2, hf, p⟩
    exact ⟨false, r, g1, by simp only [q, andThen, e, q1, q2, if_pos hf], p⟩
theorem we_rd1 {o : List D → Option (Bool × D)} : WE (mRd1 i o) g P ↔ ∃ d, mutOf g i = some d ∧ WO (o [d]) fun _ r => flat? r = true ∧ P false r g := by
  unfold mRd1
  constructor
  · rintro ⟨n, d, g', e, p⟩
    try dsimp only at e
    split at e
    · rename_i d1 q1
      refine ⟨d1, q1, ?_⟩
      split at e
      · rename_i r q2
        split at e
        · rename_i hf
          cases e
          exact ⟨_, _, q2, hf, p⟩
        · cases e
      · cases e
    · cases e
  · rintro ⟨d, q1, n2, r, q2, hf, p⟩
    exact ⟨false, r, g, by simp only [q1, q2, if_pos hf], p⟩
theorem we_mut {T : String} {o : D → List D → Option (D × D)} : WE (mMut i T o fs) g P ↔ (∃ d0, mutOf g i = some d0 ∧ isTy T d0 = true) ∧ WA fs g fun ds g1 => ∃ d, mutOf g1 i = some d ∧ ∃ res d', o d ds = some (res, d') ∧ ∃ g2, putMut i d' g1 = some g2 ∧ P false res g2 := by
  unfold mMut
  constructor
  · rintro ⟨n, d, g', e, p⟩
    try dsimp only at e
    split at e
    · rename_i d0 q
      split at e
      · rename_i ht
        refine ⟨⟨d0, q, ht⟩, ?_⟩
        have h : WE (aThen fs _) g P := ⟨n, d, g', e, p⟩
        rw [we_args] at h
        refine h.mono fun ds g1 h => ?_
        obtain ⟨n, d, g', e, p⟩ := h
        try dsimp only at e
        split at e
        · rename_i d1 q1
          refine ⟨d1, q1, ?_⟩
          split at e
          · rename_i res d' q2
            refine ⟨res, d', q2, ?_⟩
            split at e
            · rename_i g2 q3
              cases e
              exact ⟨_, q3, p⟩
            · cases e
          · cases e
        · cases e
      · cases e
    · cases e
  · rintro ⟨⟨d0, q, ht⟩, ds, g1, e, d, q1, res, d', q2, g2, q3, p⟩
    exact ⟨false, res, g2, by simp only [q, if_pos ht, aThen, e, q1, q2, q3], p⟩
theorem we_chain : WE (mChain o o' f1 f2 f3) g P ↔ WE f1 g fun _ d g1 => WE f2 g1 fun _ e g2 => WO (o d e) fun _ z => ∃ b, z = .bl b ∧ if b = true then WE f3 g2 fun _ c g3 => WO (o' e c) fun n z => P n z g3 else P false (.bl false) g2 := by
  unfold mChain
  rw [we_then]
  constructor
  · intro h
    refine h.mono fun n d g1 h => ?_
    rw [we_then] at h
    refine h.mono fun n e g2 h => ?_
    obtain ⟨n, r, g', q, p⟩ := h
    split at q
    · rename_i q1
      refine ⟨_, _, q1, true, rfl, ?_⟩
      have h : WE (andThen f3 _) g2 P := ⟨n, r, g', q, p⟩
      rw [we_then] at h
      exact h.mono fun n d g1 h => we_o.mp h
    · rename_i q1
      cases q
      exact ⟨_, _, q1, false, rfl, p⟩
    · cases q
  · intro h
    refine h.mono fun n d g1 h => ?_
    rw [we_then]
    refine h.mono fun n e g2 h => ?_
    obtain ⟨n1, z, q1, b, rfl, h⟩ := h
    cases b with
    | true =>
      have h2 : WE (andThen f3 fun _ c g => match o' e c with
        | some (n, z) => some (.ok n z g)
        | none => none) g2 P := we_then.mpr ((show WE f3 g2 _ from h).mono fun n d g1 h => we_o.mpr h)
      obtain ⟨n2, r, g', q, p⟩ := h2
      exact ⟨n2, r, g', by simp only [q1]; exact q, p⟩
    | false => exact ⟨_, _, _, by simp only [q1], h⟩
theorem ws_seq : WS (sSeq F1 F2) g R ↔ WS F1 g fun r => match r with
    | .nx g1 => WS F2 g1 R
    | r => R r := by
  unfold WS sSeq
  constructor
  · rintro ⟨r, e, p⟩
    cases q : F1 g with
    | none => rw [q] at e; cases e
    | some z =>
      rw [q] at e
      refine ⟨z, rfl, ?_⟩
      cases z with
      | nx g1 => exact ⟨r, e, p⟩
      | _ => cases e; exact p
  · rintro ⟨z, q, h⟩
    cases z with
    | nx g1 =>
      obtain ⟨r, e, p⟩ := h
      exact ⟨r, by rw [q]; exact e, p⟩
    | _ => exact ⟨_, by rw [q], h⟩
theorem ws_next : WS sNext g R ↔ R (.nx g) := ⟨fun ⟨_, e, p⟩ => by cases e; exact p, fun p => ⟨_, rfl, p⟩⟩
/-- what follows an expression (no exception) -/
theorem ws_of {k : Bool → D → MS} (h : WE f g fun n d g1 => WS (k n d) g1 R) : WS (sThen f k) g R := by
  obtain ⟨n, d, g1, e, r, e2, p⟩ := h
  exact ⟨r, by unfold sThen; rw [e]; exact e2, p⟩
theorem ws_set (h : WE f g fun _ d g1 => free? g1 i = true ∧ R (.nx (g1.set i (.im d)))) : WS (sSet i f) g R :=
  ws_of (h.mono fun n d g1 h => ⟨_, by simp only [putIm, if_pos h.1], h.2⟩)
theorem ws_setMu (h : WE f g fun n d g1 => (n = true ∧ free? g1 i = true) ∧ R (.nx (g1.set i (.mu d)))) : WS (sSetMu i f) g R :=
  ws_of (h.mono fun n d g1 h => ⟨_, if_pos h.1, h.2⟩)
theorem ws_expr (h : WE f g fun _ _ g1 => R (.nx g1)) : WS (sExpr f) g R := ws_of (h.mono fun n d g1 h => ⟨_, rfl, h⟩)
theorem ws_ret (h : WE f g fun n d g1 => R (.rt n d g1)) : WS (sRet f) g R := ws_of (h.mono fun n d g1 h => ⟨_, rfl, h⟩)
theorem ws_retMu (h : ∃ d, g[i]? = some (.mu d) ∧ R (.rt true d g)) : WS (sRetMu i) g R := by
  obtain ⟨d, e, p⟩ := h
  exact ⟨_, by simp only [sRetMu, e], p⟩
theorem ws_if (h : WE c g fun _ d g1 => WT d fun b => if b = true then WS F1 g1 R else WS F2 g1 R) : WS (sIf c F1 F2) g R := by
  obtain ⟨n, d, g1, e, b, q, h⟩ := h
  cases b with
  | true =>
    obtain ⟨r, e2, p⟩ := (show WS F1 g1 R from h)
    exact ⟨r, by simp only [sIf, sTest, e, q]; exact e2, p⟩
  | false =>
    obtain ⟨r, e2, p⟩ := (show WS F2 g1 R from h)
    exact ⟨r, by simp only [sIf, sTest, e, q]; exact e2, p⟩
theorem ws_setIx {o : D → D → D → Option D} {fi fe : MF} (h : WE fe g fun _ dv g1 => (∃ d0, mutOf g1 i = some d0) ∧ WE fi g1 fun _ di g2 => ∃ d, mutOf g2 i = some d ∧ ∃ d', o d di dv = some d' ∧ ∃ g3, putMut i d' g2 = some g3 ∧ R (.nx g3)) : WS (sSetIx i o fi fe) g R :=
  ws_of (h.mono fun n dv g1 h => by
    obtain ⟨⟨d0, q⟩, n2, di, g2, e, d, q1, d', q2, g3, q3, p⟩ := h
    exact ⟨_, by simp only [q, sThen, e, q1, q2, q3], p⟩)
theorem ws_asg {tg : D → G → Option G} (h : WE f g fun _ d g1 => ∃ g2, tg d g1 = some g2 ∧ R (.nx g2)) : WS (sAsg tg f) g R :=
  ws_of (h.mono fun n d g1 h => by
    obtain ⟨g2, q, p⟩ := h
    exact ⟨_, by simp only [q], p⟩)
theorem ws_demote (h : ∃ d, g[i]? = some (.mu d) ∧ WS F (g.set i (.im d)) R) : WS (demote i F) g R := by
  obtain ⟨d, e, r, q, p⟩ := h
  exact ⟨r, by simp only [demote, e]; exact q, p⟩
theorem ws_loop {tg : D → G → Option G} (Inv : Nat → G → Prop) : ∀ (ds : List D) (k : Nat) (g : G), Inv k g →
    (∀ i d g, ds[i]? = some d → Inv (k + i) g → ∃ g1, tg d g = some g1 ∧ WS F g1 fun r => match r with
      | .nx g2 => Inv (k + i + 1) g2
      | .ct g2 => Inv (k + i + 1) g2
      | .bk g2 => R (.nx g2)
      | r => R r) → (∀ g, Inv (k + ds.length) g → R (.nx g)) → WS (loopF tg F ds) g R
  | [], k, g, h0, _, hd => ⟨_, rfl, hd g h0⟩
  | d :: ds, k, g, h0, hs, hd => by
    obtain ⟨g1, e1, r, e2, p⟩ := hs 0 d g rfl h0
    have next : ∀ g2, Inv (k + 1) g2 → WS (loopF tg F ds) g2 R := fun g2 h2 => ws_loop Inv ds (k + 1) g2 h2 (fun i d g hi hv => by
      have e : k + 1 + i = k + (i + 1) := by omega
      rw [e] at hv ⊢
      exact hs (i + 1) d g hi hv) fun g hv => hd g (by rw [List.length_cons]; rw [show k + (ds.length + 1) = k + 1 + ds.length by omega]; exact hv)
    unfold WS loopF
    simp only [e1, e2]
    cases r with
    | nx g2 => exact next g2 p
    | ct g2 => exact next g2 p
    | bk g2 => exact ⟨_, rfl, p⟩
    | rt n d g2 => exact ⟨_, rfl, p⟩
    | ex c g2 => exact ⟨_, rfl, p⟩
theorem ws_for {it : MA} {tg : D → G → Option G} (h : WA it g fun ds g1 => WS (loopF tg F ds) g1 R) : WS (sFor it tg F) g R := by
  obtain ⟨ds, g1, e, r, e2, p⟩ := h
  exact ⟨r, by simp only [sFor, e]; exact e2, p⟩
theorem wa_items : WA (iItems f) g PA ↔ WE f g fun _ d g1 => ∃ ds, itemsD d = some ds ∧ PA ds g1 := by
  unfold WA WE iItems
  constructor
  · rintro ⟨ds, g', e, p⟩
    try dsimp only at e
    split at e
    · cases e
    · cases e
    · rename_i q
      split at e
      · rename_i ds q2
        cases e
        exact ⟨_, _, _, q, ds, q2, p⟩
      · cases e
  · rintro ⟨n, d, g1, e, ds, q, p⟩
    exact ⟨ds, g1, by simp only [e, q], p⟩
theorem wa_of {o : List D → Option (List D)} : WA (iOf o fs) g PA ↔ WA fs g fun ds g1 => ∃ l, o ds = some l ∧ PA l g1 := by
  unfold WA iOf
  constructor
  · rintro ⟨ds, g', e, p⟩
    try dsimp only at e
    split at e
    · cases e
    · cases e
    · rename_i q
      split at e
      · rename_i ds q2
        cases e
        exact ⟨_, _, q, ds, q2, p⟩
      · cases e
  · rintro ⟨ds, g1, e, l, q, p⟩
    exact ⟨l, g1, by simp only [e, q], p⟩
/-- comprehensions: between the turns -/
theorem compL_ind {tg : D → G → Option G} {c : Option MF} {e : MF} {vs : List Nat} (Inv : Nat → List D → G → Prop) : ∀ (ds : List D) (k : Nat) (acc : List D) (g : G), Inv k acc g →
    (∀ i d acc g, ds[i]? = some d → Inv (k + i) acc g → plain? g vs = true ∧ ∃ g1, tg d (wipeG g vs) = some g1 ∧ WE (testC c) g1 fun _ b g2 => WT b fun b =>
      if b = true then WE e g2 fun _ z g3 => (acc.length < sizeLine ∧ g3.length = g.length) ∧ Inv (k + i + 1) (acc ++ [z]) (backG g g3 vs)
      else g2.length = g.length ∧ Inv (k + i + 1) acc (backG g g2 vs)) → ∃ acc' g', compL tg c e vs ds acc g = some (acc', g') ∧ Inv (k + ds.length) acc' g'
  | [], k, acc, g, h0, _ => ⟨acc, g, rfl, h0⟩
  | d :: ds, k, acc, g, h0, hs => by
    obtain ⟨hp, g1, e1, n, b, g2, e2, b', e3, h⟩ := hs 0 d acc g rfl h0
    have next : ∀ acc2 g2, Inv (k + 1) acc2 g2 → ∃ acc' g', compL tg c e vs ds acc2 g2 = some (acc', g') ∧ Inv (k + (d :: ds).length) acc' g' := fun acc2 g2 h2 => by
      obtain ⟨acc', g', q, w⟩ := compL_ind Inv ds (k + 1) acc2 g2 h2 (fun i d acc g hi hv => by
        have e : k + 1 + i = k + (i + 1) := by omega
        rw [e] at hv ⊢
        exact hs (i + 1) d acc g hi hv)
      exact ⟨acc', g', q, by rw [List.length_cons, show k + (ds.length + 1) = k + 1 + ds.length by omega]; exact w⟩
    unfold compL compT
    simp only [if_pos hp, e1, e2, e3]
    cases b' with
    | true =>
      obtain ⟨n, z, g3, e4, hz, w⟩ := (show WE e g2 _ from h)
      unfold compE
      simp only [e4, if_pos hz]
      exact next _ _ w
    | false =>
      obtain ⟨hz, w⟩ := (show g2.length = g.length ∧ _ from h)
      simp only [if_pos hz]
      exact next _ _ w
theorem we_comp {it : MA} {tg : D → G → Option G} {c : Option MF} {e : MF} {vs : List Nat} (h : WA it g fun ds g1 => ∃ acc g2, compL tg c e vs ds [] g1 = some (acc, g2) ∧ shape g2 = shape g1 ∧ P true (.lst acc) g2) : WE (mComp it tg c e vs) g P := by
  obtain ⟨ds, g1, e1, acc, g2, e2, hs, p⟩ := h
  exact ⟨_, _, _, by simp only [mComp, e1, e2, compF, if_pos hs], p⟩
theorem wc_of {ds : List D} {P : Bool → D → Prop} (h : WS F (argsG (ds.map .im) N) fun r => match r with
    | .nx _ => P false .non
    | .rt n d _ => P n d
    | _ => False) : WC F N ds P := by
  obtain ⟨r, e, p⟩ := h
  cases r with
  | nx g' => exact ⟨_, _, _, by unfold callM; rw [e]; rfl, p⟩
  | rt n d g' => exact ⟨_, _, _, by unfold callM; rw [e]; rfl, p⟩
  | _ => exact p.elim
theorem wcio_of {dj : D} {ds : List D} {P : Bool → D → D → Prop} (h : WS F (argsG (.io dj :: ds.map .im) N) fun r => match r with
    | .nx g' => ∃ d', io0 g' = some d' ∧ P false .non d'
    | .rt n d g' => ∃ d', io0 g' = some d' ∧ P n d d'
    | _ => False) : WCio F N dj ds P := by
  obtain ⟨r, e, p⟩ := h
  cases r with
  | nx g' => obtain ⟨d', q, p⟩ := p; exact ⟨_, _, _, d', by rw [e]; rfl, q, p⟩
  | rt n d g' => obtain ⟨d', q, p⟩ := p; exact ⟨_, _, _, d', by rw [e]; rfl, q, p⟩
  | _ => exact p.elim
end
end TL
set_option Elab.async false
set_option linter.all false
set_option maxRecDepth 100000
set_option maxHeartbeats 4000000
namespace TL
open PySem PySem.Spec PyProof.Rows L2
def keyP : Key → PyData
  | .inl i => .int i
  | .inr x => .str x
mutual
/-- the data that a tree stands for, dicts too -/
def pyR : D → Option PyData
  | .non => some .none
  | .bl b => some (.bool b)
  | .int i => some (.int i)
  | .str s => some (.str s)
  | .lst xs => (pyRL xs).map .list
  | .tup xs => (pyRL xs).map .tuple
  | .dic es => (pyRE es).map .dict
  | .ro ns => some (.list (ns.map .int))
  | .ob _ => none
  | .exc _ => none
  | .cls _ => none
  | .dit _ => none
def pyRL : List D → Option (List PyData)
  | [] => some []
  | d :: ds => match pyR d, pyRL ds with
    | some p, some ps => some (p :: ps)
    | _, _ => none
def pyRE : List (Key × D) → Option (List (PyData × PyData))
  | [] => some []
  | (k, d) :: ds => match pyR d, pyRE ds with
    | some p, some ps => some ((keyP k, p) :: ps)
    | _, _ => none
end
section
variable {prog : Program} {w : World} {h : Heap}
/-- a value reads as this and is shown so -/
def Sh (prog : Program) (w : World) (h : Heap) (u : Value) (p : PyData) : Prop := ∃ as bs, Reads h u p as ∧ ReadAtMost h p.depth bs ∧ ReprK prog w bs h p.depth u p.shown
def ShL (prog : Program) (w : World) (h : Heap) (us : List Value) (ps : List PyData) : Prop := ∃ as bs, ReadsAll h us ps as ∧ ReadAtMost h (PyData.depthAll ps) bs ∧ ReprAllK prog w bs h (PyData.depthAll ps) us (PyData.shownAll ps)
theorem sh_plain {u : Value} {p : PyData} {as : List Addr} (r : Reads h u p as) (hs : p.showable = true) (hd : p.hasDict = false) (hz : p.shown.length ≤ sizeLine) : Sh prog w h u p := by
  obtain ⟨bs, b1, b2⟩ := ReprK.of_reads (prog := prog) (w := w) r hs (fun z => by rw [hd] at z; cases z) hz
  exact ⟨as, bs, r, b1, b2⟩
theorem shL_nil : ShL prog w h [] [] := ⟨[], [], .nil, fun b hb => (by cases hb), by rw [PyData.shownAll]; exact .nil⟩
theorem shL_cons {u : Value} {us : List Value} {p : PyData} {ps : List PyData} (a : Sh prog w h u p) (b : ShL prog w h us ps) : ShL prog w h (u :: us) (p :: ps) := by
  obtain ⟨a1, a2, ra, ma, ka⟩ := a
  obtain ⟨b1, b2, rb, mb, kb⟩ := b
  have e : PyData.depthAll (p :: ps) = max p.depth (PyData.depthAll ps) := by rw [PyData.depthAll]
  refine ⟨_, a2 ++ b2, .cons ra rb, (ma.mono (by rw [e]; exact Nat.le_max_left _ _)).append (mb.mono (by rw [e]; exact Nat.le_max_right _ _)), ?_⟩
  rw [PyData.shownAll]
  exact .cons ((ka.more fun x hx => List.mem_append_left _ hx).level_le (by rw [e]; exact Nat.le_max_left _ _)) (allK_more (fun x hx => List.mem_append_right _ hx) (by rw [e]; exact Nat.le_max_right _ _) kb)
theorem sh_list {a : Addr} {o : Obj} {us : List Value} {n : Nat} {ps : List PyData} (ha : h.get? a = some o) (hc : o.cls = .type "list") (hd : o.data = .seq us.toArray n) (s : ShL prog w h us ps) : Sh prog w h (.ref a) (.list ps) := by
  obtain ⟨as, bs, r, m, k⟩ := s
  have rd : Reads h (.ref a) (.list ps) (a :: as) := .list ha hc hd r
  have dep : (PyData.list ps).depth = PyData.depthAll ps + 1 := by rw [PyData.depth, Nat.add_comm]
  have sh : (PyData.list ps).shown = listText (PyData.shownAll ps) := by rw [PyData.shown]
  have na : a ∉ bs := not_mem_of_deeper rd (by rw [dep]; exact Nat.lt_succ_self _) m
  refine ⟨_, a :: bs, rd, ReadAtMost.cons rd (by rw [dep]; exact Nat.le_succ _) m, ?_⟩
  rw [dep, sh]
  cases us with
  | nil =>
    cases r
    rw [PyData.shownAll]
    exact (ReprK.listEmpty ha hc hd)
  | cons u us =>
    have g := allK_get k
    exact ReprK.list ha hc hd na (by rw [g.1]; rfl) fun i y hy => g.2 i y (by rw [← Array.getElem?_toList] at hy; exact hy)
theorem sh_tuple {a : Addr} {o : Obj} {us : List Value} {n : Nat} {ps : List PyData} (ha : h.get? a = some o) (hc : o.cls = .type "tuple") (hd : o.data = .seq us.toArray n) (s : ShL prog w h us ps) : Sh prog w h (.ref a) (.tuple ps) := by
  obtain ⟨as, bs, r, m, k⟩ := s
  have rd : Reads h (.ref a) (.tuple ps) as := .tuple ha hc hd r
  have dep : (PyData.tuple ps).depth = PyData.depthAll ps + 1 := by rw [PyData.depth, Nat.add_comm]
  have sh : (PyData.tuple ps).shown = tupleText (PyData.shownAll ps) := by rw [PyData.shown]
  have na : a ∉ bs := not_mem_of_deeper rd (by rw [dep]; exact Nat.lt_succ_self _) m
  refine ⟨_, a :: bs, rd, ReadAtMost.cons rd (by rw [dep]; exact Nat.le_succ _) m, ?_⟩
  rw [dep, sh]
  exact ReprK.tuple ha hc hd na k
theorem sh_dict {a : Addr} {o : Obj} {es : Array DictEntry} {n : Nat} {kvs : List (PyData × PyData)} (ha : h.get? a = some o) (hc : o.cls = .type "dict") (hd : o.data = .dict es n) (hs : (a == sysModules) = false)
    (s1 : ShL prog w h (es.toList.map (·.key)) (kvs.map (·.1))) (s2 : ShL prog w h (es.toList.map (·.val)) (kvs.map (·.2))) : Sh prog w h (.ref a) (.dict kvs) := by
  obtain ⟨as, bs, r, m, k⟩ := s1
  obtain ⟨as', bs', r', m', k'⟩ := s2
  have rd : Reads h (.ref a) (.dict kvs) (a :: as ++ as') := .dict ha hc hd r r'
  have dep : (PyData.dict kvs).depth = PyData.depthKv kvs + 1 := by rw [PyData.depth, Nat.add_comm]
  have sh : (PyData.dict kvs).shown = dictText (List.zipWith (fun k v : Str => k ++ ": " ++ v) (PyData.shownAll (kvs.map (·.1))) (PyData.shownAll (kvs.map (·.2)))) := by rw [PyData.shown, PyData.shownKv_eq]
  have mm : ReadAtMost h (PyData.depthKv kvs) (bs ++ bs') := (m.mono (PyData.depthAll_keys_le kvs)).append (m'.mono (PyData.depthAll_vals_le kvs))
  have na : a ∉ bs ++ bs' := not_mem_of_deeper rd (by rw [dep]; exact Nat.lt_succ_self _) mm
  refine ⟨_, a :: (bs ++ bs'), rd, ReadAtMost.cons rd (by rw [dep]; exact Nat.le_succ _) mm, ?_⟩
  rw [dep, sh]
  exact ReprK.dict ha hc hd hs na (ReprEntriesK.of_two es.toList _ _ (allK_more (fun x hx => List.mem_append_left _ hx) (PyData.depthAll_keys_le kvs) k) (allK_more (fun x hx => List.mem_append_right _ hx) (PyData.depthAll_vals_le kvs) k'))
end
/-- each part can be shown -/
def partsOk (p : PyData) : Prop := p.showable = true ∧ p.shown.length ≤ sizeLine
theorem parts_list {ps : List PyData} (h : partsOk (.list ps)) : PyData.showableAll ps = true ∧ ∀ t ∈ PyData.shownAll ps, t.length ≤ sizeLine := by
  obtain ⟨h1, h2⟩ := h
  rw [PyData.showable] at h1
  rw [PyData.shown] at h2
  exact ⟨h1, fun t ht => Nat.le_trans (listText_mem_le ht) h2⟩
theorem parts_tuple {ps : List PyData} (h : partsOk (.tuple ps)) : PyData.showableAll ps = true ∧ ∀ t ∈ PyData.shownAll ps, t.length ≤ sizeLine := by
  obtain ⟨h1, h2⟩ := h
  rw [PyData.showable] at h1
  rw [PyData.shown] at h2
  exact ⟨h1, fun t ht => Nat.le_trans (tupleText_mem_le ht) h2⟩
theorem parts_dict {kvs : List (PyData × PyData)} (h : partsOk (.dict kvs)) : (PyData.showableAll (kvs.map (·.1)) = true ∧ ∀ t ∈ PyData.shownAll (kvs.map (·.1)), t.length ≤ sizeLine) ∧ PyData.showableAll (kvs.map (·.2)) = true ∧ ∀ t ∈ PyData.shownAll (kvs.map (·.2)), t.length ≤ sizeLine := by
  obtain ⟨h1, h2⟩ := h
  rw [PyData.showable] at h1
  rw [PyData.shown] at h2
  obtain ⟨a, b⟩ := PyData.showableKv_split kvs h1
  refine ⟨⟨a, fun t ht => ?_⟩, b, fun t ht => ?_⟩
  · obtain ⟨p, hp, hl⟩ := PyData.shownKv_key_le kvs t ht
    exact Nat.le_trans hl (Nat.le_trans (dictText_mem_le hp) h2)
  · obtain ⟨p, hp, hl⟩ := PyData.shownKv_val_le kvs t ht
    exact Nat.le_trans hl (Nat.le_trans (dictText_mem_le hp) h2)
theorem parts_cons {p : PyData} {ps : List PyData} (h : PyData.showableAll (p :: ps) = true ∧ ∀ t ∈ PyData.shownAll (p :: ps), t.length ≤ sizeLine) : partsOk p ∧ PyData.showableAll ps = true ∧ ∀ t ∈ PyData.shownAll ps, t.length ≤ sizeLine := by
  obtain ⟨h1, h2⟩ := h
  rw [PyData.showableAll, Bool.and_eq_true] at h1
  rw [PyData.shownAll] at h2
  exact ⟨⟨h1.1, h2 _ (List.mem_cons_self ..)⟩, h1.2, fun t ht => h2 t (List.mem_cons_of_mem _ ht)⟩
section
variable {X : Cx} {pins : List (Addr × Obj)} {σ : L2.St} {H : Hp} {s : Shared} {S : Addr → Prop}
theorem keys_sh {P : Program} {h : Heap} {w : World} {prog : Program} : ∀ {es : List DictEntry} {kvs : List (Key × Value)}, Pairs (mixKind P w) es kvs → (PyData.showableAll (kvs.map fun e => keyP e.1) = true ∧ ∀ t ∈ PyData.shownAll (kvs.map fun e => keyP e.1), t.length ≤ sizeLine) → ShL prog w h (es.map (·.key)) (kvs.map fun e => keyP e.1)
  | _, _, .nil, _ => shL_nil
  | _, _, .cons (kv := kv) hk _ t, hz => by
    obtain ⟨h1, h2⟩ := parts_cons hz
    refine shL_cons ?_ (keys_sh t h2)
    obtain ⟨k, v⟩ := kv
    rcases keyIs_shape hk with ⟨i, tk, e1, e2⟩ | ⟨x, tk, e1, e2⟩
    · cases e1
      show Sh prog w h (DictEntry.key _) (keyP _)
      rw [e2]
      exact sh_plain (.int i tk) h1.1 rfl h1.2
    · cases e1
      show Sh prog w h (DictEntry.key _) (keyP _)
      rw [e2]
      exact sh_plain (.str x tk) h1.1 rfl h1.2
theorem pyRE_len : ∀ {es : List (Key × D)} {kvs : List (PyData × PyData)}, pyRE es = some kvs → kvs.map (·.1) = es.map fun e => keyP e.1
  | [], _, e => by cases e; rfl
  | (k, d) :: es, _, e => by
    unfold pyRE at e
    split at e
    · rename_i p ps h1 h2
      cases e
      rw [List.map_cons, List.map_cons, pyRE_len h2]
    · cases e
theorem ints_noDict : ∀ ns : List Int, PyData.hasDictAll (ns.map .int) = false
  | [] => by rw [List.map_nil, PyData.hasDictAll]
  | n :: ns => by rw [List.map_cons, PyData.hasDictAll, ints_noDict ns, PyData.hasDict]; rfl
mutual
theorem tr_sh (I : Inv X pins σ H s) : ∀ (d : D) (v : V) (u : Value) (p : PyData), Tr X.K S H v d → pyR d = some p → RelV v u → partsOk p → Sh X.prog X.w s.heap u p
  | .non, v, u, p, t, e, r, hz => by cases e; cases t; cases r; exact sh_plain .none hz.1 rfl hz.2
  | .bl b, v, u, p, t, e, r, hz => by cases e; cases t; cases r; exact sh_plain (.bool b) hz.1 rfl hz.2
  | .int i, v, u, p, t, e, r, hz => by cases e; cases t; obtain ⟨tk, rfl⟩ := r; exact sh_plain (.int i tk) hz.1 rfl hz.2
  | .str x, v, u, p, t, e, r, hz => by cases e; cases t; obtain ⟨tk, rfl⟩ := r; exact sh_plain (.str x tk) hz.1 rfl hz.2
  | .ob _, _, _, _, _, e, _, _ => by cases e
  | .exc _, _, _, _, _, e, _, _ => by cases e
  | .cls _, _, _, _, _, e, _, _ => by cases e
  | .dit _, _, _, _, _, e, _, _ => by cases e
  | .ro ns, v, u, p, t, e, r, hz => by
    have dp := dp_of (.ro ns) v _ t rfl
    cases e
    obtain ⟨as, rd⟩ := Dp.reads I _ v u dp r
    exact sh_plain rd hz.1 (by rw [PyData.hasDict]; exact ints_noDict ns) hz.2
  | .lst ds, v, u, p, t, e, r, hz => by
    unfold pyR at e
    obtain ⟨ps, hp, rfl⟩ := Option.map_eq_some_iff.mp e
    obtain ⟨a, xs, rfl, ha, tl⟩ := lst_sq t
    cases r
    obtain ⟨_, its, n, rv, ho⟩ := I.hok _ _ ha
    exact sh_list ho rfl rfl (trl_sh I ds xs its ps tl hp rv (parts_list hz))
  | .tup ds, v, u, p, t, e, r, hz => by
    unfold pyR at e
    obtain ⟨ps, hp, rfl⟩ := Option.map_eq_some_iff.mp e
    obtain ⟨a, xs, rfl, ha, tl⟩ := tup_sq t
    cases r
    obtain ⟨its, rv, ⟨o, ho, hc, n, hd⟩, _⟩ := I.tuple ha
    exact sh_tuple ho hc hd (trl_sh I ds xs its ps tl hp rv (parts_tuple hz))
  | .dic es, v, u, p, t, e, r, hz => by
    unfold pyR at e
    obtain ⟨kvs, hp, rfl⟩ := Option.map_eq_some_iff.mp e
    cases t with
    | dic ha n te =>
      cases r
      obtain ⟨_, hs, vs, rel, o, ents, ep, ho, hx, hd, _, pr, _⟩ := dk_of I.hok ha
      obtain ⟨z1, z2⟩ := parts_dict hz
      have hk := pyRE_len hp
      obtain ⟨h1, h2⟩ := tre_sh I es _ vs ents.toList kvs te hp rel pr z2
      refine sh_dict ho hx.1 hd hs ?_ h2
      rw [hk, ← h1] at z1 ⊢
      exact keys_sh pr z1
theorem trl_sh (I : Inv X pins σ H s) : ∀ (ds : List D) (xs : List V) (us : List Value) (ps : List PyData), TrL X.K S H xs ds → pyRL ds = some ps → Vals xs us → (PyData.showableAll ps = true ∧ ∀ t ∈ PyData.shownAll ps, t.length ≤ sizeLine) → ShL X.prog X.w s.heap us ps
  | [], _, _, _, t, e, r, _ => by cases t; cases e; cases r; exact shL_nil
  | d :: ds, _, _, _, t, e, r, hz => by
    unfold pyRL at e
    split at e
    · rename_i p ps h1 h2
      cases e
      cases t with
      | cons t1 t2 =>
        cases r with
        | cons r1 r2 =>
          obtain ⟨z1, z2⟩ := parts_cons hz
          exact shL_cons (tr_sh I d _ _ p t1 h1 r1 z1) (trl_sh I ds _ _ ps t2 h2 r2 z2)
    · cases e
theorem tre_sh (I : Inv X pins σ H s) : ∀ (es : List (Key × D)) (xs : List (Key × V)) (vs : List (Key × Value)) (ents : List DictEntry) (kvs : List (PyData × PyData)), TrE X.K S H xs es → pyRE es = some kvs → KV xs vs → Pairs (mixKind X.prog X.w) ents vs → (PyData.showableAll (kvs.map (·.2)) = true ∧ ∀ t ∈ PyData.shownAll (kvs.map (·.2)), t.length ≤ sizeLine) →
    (vs.map (fun e => keyP e.1) = es.map fun e => keyP e.1) ∧ ShL X.prog X.w s.heap (ents.map (·.val)) (kvs.map (·.2))
  | [], _, _, _, _, t, e, r, pr, _ => by cases t; cases e; cases r; cases pr; exact ⟨rfl, shL_nil⟩
  | (k, d) :: es, _, _, _, _, t, e, r, pr, hz => by
    unfold pyRE at e
    split at e
    · rename_i p ps h1 h2
      cases e
      cases t with
      | cons t1 t2 =>
        cases r with
        | cons r1 r2 =>
          cases pr with
          | cons q1 q2 q3 =>
            obtain ⟨z1, z2⟩ := parts_cons hz
            obtain ⟨e1, e2⟩ := tre_sh I es _ _ _ ps t2 h2 r2 q3 z2
            refine ⟨?_, ?_⟩
            · rw [List.map_cons, List.map_cons, e1, ← r1.1]
            · refine shL_cons ?_ e2
              show Sh X.prog X.w s.heap (DictEntry.val _) p
              rw [q2]
              exact tr_sh I d _ _ p t1 h1 r1.2 z1
    · cases e
end
end
def isRo : D → Bool
  | .ro _ => true
  | _ => false
/-- repr of any data, where no guard runs -/
def rReprA (K : PySem.W.Frag) : List V → Hp → VK → Prop := fun xs H Q => ∃ (x : V) (S : Addr → Prop) (d : D) (p : PyData), xs = [x] ∧ Tr K S H x d ∧ isRo d = false ∧ pyR d = some p ∧ partsOk p ∧ p.depth ≤ 60 ∧ Q (.str p.shown) H
section
variable {X : Cx}
theorem call_reprA (g : X.A.guards = some []) (hu : X.A.units + 70 < cLine) : CallR X (.builtin "repr") (rReprA X.K) := by
  intro pins s σ H xs us Q I r h
  obtain ⟨x, S, d, p, rfl, t, hro, hp, hz, hdep, q⟩ := h
  obtain ⟨u, rfl, ru⟩ := vals1 r
  have fin : ∀ (h' : Heap) (t : Tok) (tk : Nat), (∀ (b : Addr) (o : Obj), s.heap.get? b = some o → h'.get? b = some o) → ∀ z, z = p.shown → (fun (r : Value) s1 => ∃ y t, r = Value.str y t ∧ EP X pins σ Q r s1) (Value.str z t) { heap := h', gens := s.gens, drawn := s.drawn, toks := tk, os := s.os } := fun h' t tk keep z e => ⟨_, _, rfl, .str z, H, I.kept keep, ⟨t, rfl⟩, by rw [e]; exact q⟩
  have fin2 : ∀ (tk : Nat) (t : Tok) z, z = p.shown → EP X pins σ Q (Value.str z t) { s with toks := tk } := fun tk t z e => ⟨.str z, H, I.tok _, ⟨t, rfl⟩, by rw [e]; exact q⟩
  have clear : ∀ b : Addr, Clear [] b := fun b id v rest kw m => by cases m
  cases d with
  | non =>
    cases hp; cases t; cases ru
    exact P.repr_of_none (fin2 _ _ _ (by rw [PyData.shown]))
  | bl b =>
    cases hp; cases t; cases ru
    exact P.repr_of_bool (fin2 _ _ _ (by rw [PyData.shown]))
  | int i =>
    cases hp; cases t
    obtain ⟨tk, rfl⟩ := ru
    exact P.repr_of_int (by have := hz.1; rw [PyData.showable] at this; exact of_decide_eq_true this) (fin2 _ _ _ (by rw [PyData.shown]))
  | str z =>
    cases hp; cases t
    obtain ⟨tk, rfl⟩ := ru
    have z2 := hz.2
    rw [PyData.shown] at z2
    exact P.repr_of_str (fin2 _ _ _ (by rw [PyData.shown])) z2
  | lst ds =>
    unfold pyR at hp
    obtain ⟨ps, hps, rfl⟩ := Option.map_eq_some_iff.mp hp
    obtain ⟨a, ys, rfl, ha, tl⟩ := lst_sq t
    cases ru
    obtain ⟨_, its, n, rv, ho⟩ := I.hok _ _ ha
    obtain ⟨as, bs, rall, rA, kA⟩ := trl_sh I ds ys its ps tl hps rv (parts_list hz)
    have dep : (PyData.list ps).depth = PyData.depthAll ps + 1 := by rw [PyData.depth, Nat.add_comm]
    have sh : (PyData.list ps).shown = listText (PyData.shownAll ps) := by rw [PyData.shown]
    have rd : Reads s.heap (.ref a) (.list ps) (a :: as) := .list ho rfl rfl rall
    have na : ¬ a ∈ bs := not_mem_of_deeper rd (by rw [dep]; exact Nat.lt_succ_self _) rA
    have ti : s.TypeIs (.ref a) "list" := ⟨_, ho, rfl⟩
    refine call_repr_slot (T := "list") (by omega) ti F.slot_list_repr.toG ?_
    cases its with
    | nil =>
      cases rall
      exact call_list_repr_empty ti ho rfl (fin s.heap s.toks (s.toks + 1) (fun _ _ k => k) _ (by rw [sh, PyData.shownAll]; rfl))
    | cons v vl =>
      have ks := allK_get kA
      refine call_list_reprK ho rfl rfl na (by rw [ks.1]; rfl) (fun i y hy => ks.2 i y (by have z := hy; rw [← Array.getElem?_toList] at z; exact z)) (g := []) g (fun b _ => clear b) ?_ (fun b o k => k) (fun h' t tk keep => fin h' t tk keep _ sh.symm) (by rw [← sh]; exact hz.2)
      show X.A.units + 1 + (PyData.depthAll ps + 1) < cLine
      omega
  | tup ds =>
    unfold pyR at hp
    obtain ⟨ps, hps, rfl⟩ := Option.map_eq_some_iff.mp hp
    obtain ⟨a, ys, rfl, ha, tl⟩ := tup_sq t
    cases ru
    obtain ⟨its, rv, ⟨o, ho, hc, n, hd⟩, _⟩ := I.tuple ha
    obtain ⟨as, bs, rall, rA, kA⟩ := trl_sh I ds ys its ps tl hps rv (parts_tuple hz)
    have dep : (PyData.tuple ps).depth = PyData.depthAll ps + 1 := by rw [PyData.depth, Nat.add_comm]
    have sh : (PyData.tuple ps).shown = tupleText (PyData.shownAll ps) := by rw [PyData.shown]
    have rd : Reads s.heap (.ref a) (.tuple ps) as := .tuple ho hc hd rall
    have na : ¬ a ∈ bs := not_mem_of_deeper rd (by rw [dep]; exact Nat.lt_succ_self _) rA
    have ti : s.TypeIs (.ref a) "tuple" := ⟨o, ho, hc⟩
    refine call_repr_slot (T := "tuple") (by omega) ti F.slot_tuple_repr ?_
    refine call_tuple_reprK ho hc hd na kA (g := []) g (fun b _ => clear b) ?_ (fun b o k => k) (fun h' t tk keep => fin h' t tk keep _ sh.symm) (by rw [← sh]; exact hz.2)
    show X.A.units + 1 + (PyData.depthAll ps + 1) < cLine
    omega
  | dic es =>
    unfold pyR at hp
    obtain ⟨kvs, hps, rfl⟩ := Option.map_eq_some_iff.mp hp
    cases t with
    | dic ha n te =>
      rename_i a ys
      cases ru
      obtain ⟨_, hs, vs, rel, o, ents, ep, ho, hx, hd, _, pr, _⟩ := dk_of I.hok ha
      obtain ⟨z1, z2⟩ := parts_dict hz
      have hk := pyRE_len hps
      obtain ⟨h1, as', bs', r', m', k'⟩ := tre_sh I es _ vs ents.toList kvs te hps rel pr z2
      obtain ⟨as, bs, r, m, k⟩ : ShL X.prog X.w s.heap (ents.toList.map (·.key)) (kvs.map (·.1)) := by
        rw [hk, ← h1] at z1 ⊢
        exact keys_sh pr z1
      have rd : Reads s.heap (.ref a) (.dict kvs) (a :: as ++ as') := .dict ho hx.1 hd r r'
      have dep : (PyData.dict kvs).depth = PyData.depthKv kvs + 1 := by rw [PyData.depth, Nat.add_comm]
      have sh : (PyData.dict kvs).shown = dictText (List.zipWith (fun k v : Str => k ++ ": " ++ v) (PyData.shownAll (kvs.map (·.1))) (PyData.shownAll (kvs.map (·.2)))) := by rw [PyData.shown, PyData.shownKv_eq]
      have mm : ReadAtMost s.heap (PyData.depthKv kvs) (bs ++ bs') := (m.mono (PyData.depthAll_keys_le kvs)).append (m'.mono (PyData.depthAll_vals_le kvs))
      have na : a ∉ bs ++ bs' := not_mem_of_deeper rd (by rw [dep]; exact Nat.lt_succ_self _) mm
      have ti : s.TypeIs (.ref a) "dict" := ⟨o, ho, hx.1⟩
      refine call_repr_slot (T := "dict") (by omega) ti F.slot_dict_repr ?_
      refine call_dict_reprK ho hx.1 hd hs na (ReprEntriesK.of_two ents.toList _ _ (allK_more (fun x hx => List.mem_append_left _ hx) (PyData.depthAll_keys_le kvs) k) (allK_more (fun x hx => List.mem_append_right _ hx) (PyData.depthAll_vals_le kvs) k')) (g := []) g (fun b _ => clear b) ?_ (fun b o k => k) (fun h' t tk keep => fin h' t tk keep _ sh.symm) (by rw [← sh]; exact hz.2)
      show X.A.units + 1 + (PyData.depthKv kvs + 1) < cLine
      omega
  | ro ns => cases hro
  | _ => cases hp
theorem u70 {k : Nat} (hr : Room k X.A) : X.A.units + 70 < cLine := by have := hr.un; omega
end
def reprOkA (p : PyData) : Bool := p.showable && (decide (p.shown.length ≤ sizeLine) && decide (p.depth ≤ 60))
def reprA : List D → Option (Bool × D)
  | [d] => if isRo d = true then none else match pyR d with
    | some p => if reprOkA p = true then some (false, .str p.shown) else none
    | none => none
  | _ => none
theorem l_reprA {K : PySem.W.Frag} : LC K (rReprA K) reprA := fun S H xs ds n z Q dm t ho k => by
  unfold reprA at ho
  split at ho
  · rename_i d
    split at ho
    · cases ho
    · rename_i hro
      split at ho
      · rename_i p hp
        split at ho
        · rename_i hr
          obtain ⟨v, rfl, tv⟩ := trl1 t
          unfold reprOkA at hr
          rw [Bool.and_eq_true, Bool.and_eq_true, decide_eq_true_eq, decide_eq_true_eq] at hr
          exact ⟨v, S, d, p, rfl, tv, by rwa [Bool.not_eq_true] at hro, hp, ⟨hr.1, hr.2.1⟩, hr.2.2, fin1 ho (.str _) k⟩
        · cases ho
      · cases ho
  · cases ho
theorem wo_repr {d : D} {p : PyData} {P : Bool → D → Prop} (h : pyR d = some p) (hro : isRo d = false) (ok : reprOkA p = true) (k : P false (.str p.shown)) : WO (reprA [d]) P := by
  refine ⟨_, _, ?_, k⟩
  simp only [reprA, hro, h, Bool.false_eq_true, if_false]
  rw [if_pos ok]
def neZ : D → D → Option (Bool × D)
  | .str x, .str y => some (false, .bl (!decide (x = y)))
  | d, e => neD d e
section
variable {K : PySem.W.Frag} {X : Cx}
abbrev rNeZ (K : PySem.W.Frag) : R2 := fun x y H Q => rNe x y H Q ∨ rNeD K x y H Q
theorem op_neZ (hu : X.A.units + 64 < cLine) : OpR X (compareOp .NotEq) (rNeZ X.K) := op_ne.or (op_neD hu)
theorem l_neZ : L2r K (rNeZ K) neZ := fun S H x y d e n z Q dm tx ty ho k => by
  unfold neZ at ho
  split at ho
  · cases tx; cases ty
    refine .inl ⟨rfl, fin1 ho ?_ k⟩
    rw [show decide (V.str _ = V.str _) = decide (_ = _) from decide_eq_decide.mpr ⟨V.str.inj, fun e => by rw [e]⟩]
    exact .bl _
  · exact .inr (l_ne S H x y _ _ n z Q dm tx ty ho k)
end
end TL
set_option Elab.async false
set_option linter.all false
set_option maxRecDepth 100000
set_option maxHeartbeats 4000000
namespace TL
open PySem PySem.Spec PyProof.Rows L2
section
variable {X : Cx} {K : PySem.W.Frag}
end
end TL
set_option Elab.async false
set_option linter.all false
set_option maxRecDepth 100000
set_option maxHeartbeats 4000000
namespace TL
open PySem PySem.Spec PyProof.Rows L2
section
variable {X : Cx}
theorem u2 {k : Nat} (hr : Room k X.A) : X.A.units + 2 < cLine := by have := hr.un; omega
variable {C : Cxt} {E : XK} {m : Bool} {f : MF}
end
end TL
set_option Elab.async false
set_option linter.all false
set_option maxRecDepth 100000
set_option maxHeartbeats 4000000
namespace PySem.SeqAt
open AutoSeq1 (wpAny_loadPart')
open MeetsSeq MeetsSeq2 MeetsSeq3 SeqRoads2
section
variable {prog : Program} {w : World}
end
end PySem.SeqAt
namespace TL
open PySem PySem.Spec PyProof.Rows L2
section
variable {K : PySem.W.Frag} {X : Cx}
end
end TL
set_option Elab.async false
set_option linter.all false
set_option maxRecDepth 100000
set_option maxHeartbeats 4000000
namespace TL
open PySem PySem.Spec PyProof.Rows L2
section
variable {X : Cx} {C : Cxt} {E : XK} {m : Bool} {k np N j : Nat} {F : MS} {fs : MA} {x nm : Str} {p pos pn : Pos} {e : Expr} {es : List Expr} {f : Addr} {fd : FuncData} {ps : List Str} {sp : Sp} {t : TA}
end
end TL
set_option Elab.async false
set_option linter.all false
set_option maxRecDepth 100000
set_option maxHeartbeats 4000000
namespace TL
open PySem PySem.Spec PyProof.Rows L2 PySem.W
end TL
set_option Elab.async false
set_option linter.all false
set_option maxRecDepth 100000
set_option maxHeartbeats 4000000
namespace TL
open PySem PySem.Spec PyProof.Rows L2
end TL
set_option Elab.async false
set_option linter.all false
set_option maxRecDepth 100000
set_option maxHeartbeats 4000000
namespace PySem.SeqAt
open AutoSeq1 (wpAny_loadPart')
open MeetsSeq MeetsSeq2 MeetsSeq3 SeqRoads2
section
variable {prog : Program} {w : World} {A : Around} {s : Shared} {E : Value → Shared → Prop}
end
end PySem.SeqAt
namespace TL
open PySem PySem.Spec PyProof.Rows L2
section
variable {K : PySem.W.Frag} {X : Cx}
end
end TL
set_option Elab.async false
set_option linter.all false
set_option maxRecDepth 100000
set_option maxHeartbeats 4000000
namespace TL
open PySem PySem.Spec PyProof.Rows L2
def putT (es : List ((Int × Int) × D)) (k : Int × Int) (d : D) : List ((Int × Int) × D) :=
  if (es.any fun e => decide (e.1 = k)) = true then es.map (fun e => if e.1 = k then (e.1, d) else e) else es ++ [(k, d)]
def getT (es : List ((Int × Int) × D)) (k : Int × Int) : Option D := (es.find? fun e => decide (e.1 = k)).map (·.2)
def pk (p : Int × Int) : List Key := [.inl p.1, .inl p.2]
theorem pk_inj {p q : Int × Int} (e : pk p = pk q) : p = q := by
  unfold pk at e
  injection e with e1 e
  injection e with e2 _
  injection e1 with e1
  injection e2 with e2
  exact Prod.ext e1 e2
section
variable {K : PySem.W.Frag} {S S' : Addr → Prop} {H H' : Hp}
theorem TrT.len : ∀ {vs : List (List Key × V)} {es : List ((Int × Int) × D)}, TrT K S H vs es → vs.length = es.length
  | _, _, .nil => rfl
  | _, _, .cons _ t => congrArg Nat.succ t.len
theorem pk_dec {p q : Int × Int} : decide (pk p = pk q) = decide (p = q) := by
  by_cases e : p = q
  · rw [e, decide_eq_true rfl, decide_eq_true rfl]
  · rw [decide_eq_false e, decide_eq_false fun z => e (pk_inj z)]
theorem TrT.any (k : Int × Int) : ∀ {vs : List (List Key × V)} {es : List ((Int × Int) × D)}, TrT K S H vs es → (vs.any fun e => decide (e.1 = pk k)) = es.any fun e => decide (e.1 = k)
  | _, _, .nil => rfl
  | _, _, .cons (p := p) _ t => by
    rw [List.any_cons, List.any_cons, TrT.any k t]
    exact congrArg (· || _) (pk_dec (p := p) (q := k))
theorem TrT.over {k : Int × Int} {v : V} {d : D} (h : Tr K S H v d) : ∀ {vs : List (List Key × V)} {es : List ((Int × Int) × D)}, TrT K S H vs es → TrT K S H (vs.map fun e => if e.1 = pk k then (e.1, v) else e) (es.map fun e => if e.1 = k then (e.1, d) else e)
  | _, _, .nil => .nil
  | _, _, .cons (p := p) (v := v') (d := d') h' t => by
    rw [List.map_cons, List.map_cons]
    by_cases e : p = k
    · rw [if_pos (show ((p, d').1) = k from e), if_pos (show ((([.inl p.1, .inl p.2] : List Key), v').1) = pk k by rw [← e]; rfl)]; exact .cons (p := p) h (TrT.over h t)
    · rw [if_neg (show ¬ ((p, d').1) = k from e), if_neg (show ¬ ((([.inl p.1, .inl p.2] : List Key), v').1) = pk k from fun z => e (pk_inj z))]; exact .cons (p := p) h' (TrT.over h t)
theorem TrT.snoc {k : Int × Int} {v : V} {d : D} (h : Tr K S H v d) : ∀ {vs : List (List Key × V)} {es : List ((Int × Int) × D)}, TrT K S H vs es → TrT K S H (vs ++ [(pk k, v)]) (es ++ [(k, d)])
  | _, _, .nil => .cons (p := k) h .nil
  | _, _, .cons (p := p) h' t => .cons (p := p) h' (TrT.snoc h t)
theorem TrT.put {k : Int × Int} {v : V} {d : D} {vs : List (List Key × V)} {es : List ((Int × Int) × D)} (h : Tr K S H v d) (t : TrT K S H vs es) : TrT K S H (putK vs (pk k) v) (putT es k d) := by
  unfold putK putT
  rw [t.any k]
  by_cases e : (es.any fun e => decide (e.1 = k)) = true
  · rw [if_pos e, if_pos e]; exact t.over h
  · rw [if_neg e, if_neg e]; exact t.snoc h
theorem TrT.val {k : Int × Int} : ∀ {vs : List (List Key × V)} {es : List ((Int × Int) × D)}, TrT K S H vs es → (getT es k = none ∧ valV vs (pk k) = none) ∨ ∃ v d, getT es k = some d ∧ valV vs (pk k) = some v ∧ Tr K S H v d
  | _, _, .nil => .inl ⟨rfl, rfl⟩
  | _, _, .cons (p := p) (v := v) (d := d) h t => by
    by_cases e : p = k
    · subst e
      exact .inr ⟨v, d, by simp [getT], by simp [valV, pk], h⟩
    · have e2 : ¬ pk p = pk k := fun z => e (pk_inj z)
      rcases TrT.val (k := k) t with ⟨h1, h2⟩ | ⟨v', d', h1, h2, h3⟩
      · exact .inl ⟨by simpa [getT, e] using h1, by
          unfold valV at h2 ⊢
          rw [List.find?_cons_of_neg (by rw [decide_eq_true_eq]; exact e2)]
          exact h2⟩
      · exact .inr ⟨v', d', by simpa [getT, e] using h1, by
          unfold valV at h2 ⊢
          rw [List.find?_cons_of_neg (by rw [decide_eq_true_eq]; exact e2)]
          exact h2, h3⟩
end
section
variable {X : Cx} {C : Cxt} {E : XK} {m : Bool} {pos : Pos}
theorem TrT.at' {K : PySem.W.Frag} {S : Addr → Prop} {H : Hp} : ∀ {vs : List (List Key × V)} {es : List ((Int × Int) × D)} {i : Nat} {k : List Key} {v : V}, TrT K S H vs es → vs[i]? = some (k, v) → ∃ e, es[i]? = some e ∧ k = pk e.1
  | _, _, i, k, v, .nil, h => by cases h
  | _, _, 0, k, v, .cons (p := p) (d := d) _ t, h => by
    cases h
    exact ⟨(p, d), rfl, rfl⟩
  | _, _, i + 1, k, v, .cons _ t, h => t.at' (i := i) h
end
end TL
set_option Elab.async false
set_option linter.all false
set_option maxRecDepth 100000
set_option maxHeartbeats 4000000
namespace TL
open PySem PySem.Spec PyProof.Rows PySem.W L2
section
variable {X : Cx}
end
section
variable {X : Cx} {C : Cxt} {E : XK} {m : Bool} {i : Nat} {σ : L2.St} {H : Hp} {Q : VK}
end
inductive IT (K : PySem.W.Frag) (H H2 : Hp) : List V → List D → Prop
  | nil : IT K H H2 [] []
  | snoc {acc : List V} {ds : List D} {q : Addr} {x : Str} {w : V} {d : D} (t : IT K H H2 acc ds) (hq : H q = none) (h2 : H2 q = some (.tup [.str x, w])) (hw : ∀ (S : Addr → Prop) (H : Hp), Tr K S H w d) : IT K H H2 (acc ++ [.ref q]) (ds ++ [.tup [.str x, d]])
theorem IT.mono {K : PySem.W.Frag} {H H2 H3 : Hp} {acc : List V} {ds : List D} (t : IT K H H2 acc ds) (h : ∀ q x w, H2 q = some (.tup [.str x, w]) → H3 q = some (.tup [.str x, w])) : IT K H H3 acc ds := by
  induction t with
  | nil => exact .nil
  | snoc t hq h2 hw ih => exact .snoc ih hq (h _ _ _ h2) hw
theorem TrL.put {K : PySem.W.Frag} {S : Addr → Prop} {H : Hp} {v : V} {d : D} (h : Tr K S H v d) : ∀ {vs : List V} {ds : List D}, TrL K S H vs ds → TrL K S H (vs ++ [v]) (ds ++ [d])
  | _, _, .nil => .cons h .nil
  | _, _, .cons h1 t => .cons h1 (TrL.put h t)
theorem IT.tr {K : PySem.W.Frag} {H H2 H' : Hp} {S : Addr → Prop} {acc : List V} {ds : List D} (t : IT K H H2 acc ds) (h : ∀ q x w, H q = none → H2 q = some (.tup [.str x, w]) → ¬ S q ∧ H' q = some (.tup [.str x, w])) : TrL K S H' acc ds := by
  induction t with
  | nil => exact .nil
  | snoc t hq h2 hw ih =>
    obtain ⟨h3, h4⟩ := h _ _ _ hq h2
    exact TrL.put (.tup h4 h3 (.cons (.str _) (.cons (hw S H') .nil))) ih
theorem IT.len {K : PySem.W.Frag} {H H2 : Hp} {acc : List V} {ds : List D} (t : IT K H H2 acc ds) : acc.length = ds.length := by
  induction t with
  | nil => rfl
  | snoc t hq h2 hw ih => rw [List.length_append, List.length_append, ih]; rfl
theorem TrE.at' {K : PySem.W.Frag} {S : Addr → Prop} {H : Hp} {vs : List (Key × V)} {es : List (Key × D)} (t : TrE K S H vs es) : ∀ {i : Nat} {k : Key} {v : V}, vs[i]? = some (k, v) → ∃ d, es[i]? = some (k, d) := by
  induction vs generalizing es with
  | nil => intro i k v h; cases h
  | cons p vs ih =>
    cases t with
    | @cons k' v' _ d' ds' h1 t =>
      intro i k v h
      cases i with
      | zero => cases h; exact ⟨d', rfl⟩
      | succ i => exact ih t (i := i) h
section
variable {X : Cx} {C : Cxt} {E : XK} {m : Bool} {pos : Pos}
end
section
variable {X : Cx} {C : Cxt} {E : XK} {m : Bool} {σ : L2.St} {H : Hp} {Q : VK} {i : Nat} {fk fx : MF}
end
end TL
set_option Elab.async false
set_option linter.all false
set_option maxRecDepth 100000
set_option maxHeartbeats 4000000
namespace TL
open PySem PySem.Spec PyProof.Rows L2

section
variable {α : Type} {t : Sem α} {Q Q' : α → Shared → Prop} {M : Model} {A : Around} {E : Value → Shared → Prop} {s : Shared}
end
section
variable {X : Cx} {st : Stmt} {sts : List Stmt} {e : Expr} {t t' : TS} {te te' : TE}
theorem PST.imp (h : PST X st t) (k : ∀ D σ H, t' D σ H → t D σ H) : PST X st t' := fun pins s σ H D o I w => h pins s σ H D o I (k D σ H w)
theorem PSsT.imp (h : PSsT X sts t) (k : ∀ D σ H, t' D σ H → t D σ H) : PSsT X sts t' := fun pins s σ H D o I w => h pins s σ H D o I (k D σ H w)
theorem PET.imp (h : PET X e te) (k : ∀ σ H Q, te' σ H Q → te σ H Q) : PET X e te' := fun pins s σ H Q o I w => h pins s σ H Q o I (k σ H Q w)
end

section
variable {X : Cx}
end

section
variable {X : Cx}
end

/-- the same, as things of their own -/
structure QS (X : Cx) (st : Stmt) (t : TS) : Prop where
  run : PST X st t
structure QSs (X : Cx) (sts : List Stmt) (t : TS) : Prop where
  run : PSsT X sts t
structure QE (X : Cx) (e : Expr) (t : TE) : Prop where
  run : PET X e t
section
variable {X : Cx} {C : Cxt} {E : XK} {m : Bool}
theorem QS.of {st : Stmt} {t : TS} (h : PS X st t) : QS X st t := ⟨PST.of h⟩
theorem QSs.of {sts : List Stmt} {t : TS} (h : PSs X sts t) : QSs X sts t := ⟨PSsT.of h⟩
end

end TL
set_option Elab.async false
set_option linter.all false
set_option maxRecDepth 100000
set_option maxHeartbeats 4000000
namespace TL
open PySem PySem.Spec PyProof.Rows L2

section
variable {P : Program} {w : World} {K : PySem.W.Frag} {mg : Str → Option Value} {base : Heap} {x qual p : Str} {ps : List Str} {st : Stmt} {f : Addr} {fd : FuncData} {N : List Str} {k : Nat} {F : MS}
end
section
variable {X : Cx} {C : Cxt} {E : XK}
theorem QE.of {e : Expr} {t : TE} (h : PE X e t) : QE X e t := ⟨CwR.PET.of h⟩
end
section
variable {X : Cx} {C : Cxt} {E : XK} {m : Bool} {f h : MF} {o e : Expr} {name : Str} {apos cpos : Pos} {T id : String} {r : V → List V → Hp → VK → Prop} {op : D → List D → Option (Bool × D)}
end
section
variable {X : Cx} {C : Cxt} {E : XK}
end
end TL
set_option Elab.async false
set_option linter.all false
set_option maxRecDepth 100000
set_option maxHeartbeats 4000000
namespace TL
open PySem PySem.Spec PyProof.Rows L2
section
variable {X : Cx} {C : Cxt} {E : XK} {m : Bool} {f1 f2 : MF} {a b : Expr} {s : Str} {σ : L2.St} {H : Hp} {Q : VK}
end
def small2 (p : Int × Int) : Prop := 0 ≤ p.1 ∧ p.1 < 64 ∧ 0 ≤ p.2 ∧ p.2 < 64
instance (p : Int × Int) : Decidable (small2 p) := by unfold small2; infer_instance
section
variable {X : Cx} {C : Cxt} {E : XK} {m : Bool} {f : MF}
end
end TL
set_option Elab.async false
set_option linter.all false
set_option maxRecDepth 100000
set_option maxHeartbeats 4000000
namespace TL
open PySem PySem.Spec PyProof.Rows L2
def isTupD : D → Bool
  | .tup _ => true
  | _ => false
def txts : D → Bool
  | .lst ds => !ds.isEmpty && ds.all isTxt
  | _ => false
def freshD : D → Bool
  | .tup [.int _, .lst es] => es.all isTupD && decide (es.length < sizeLine)
  | _ => false
def sFresh (i : Nat) (F : MS) (N : Nat) (fs : MA) (f2 f3 : MF) (fa : MA) : MS := fun g => match fs g with
  | some (.ok ds g1) => if ds.all txts = true ∧ free? g1 i = true then match callM F N ds with
    | some (.rt _ d _) => match f2 (g1.set i (.im d)) with
      | some (.ok _ (.bl true) g2) => some (.rt false (.bl false) g2)
      | some (.ok _ (.bl false) g2) => match f3 g2 with
        | some (.ok _ (.bl false) _) => some (.nx (g1.set i .no))
        | some (.ok _ (.bl true) g3) => if freshD d = true then match fa g3 with
            | some (.ok [_] _) => some (.nx (g1.set i .no))
            | _ => none
          else none
        | _ => none
      | _ => none
    | _ => none else none
  | _ => none
section
variable {K : PySem.W.Frag} {S : Addr → Prop} {H : Hp}
theorem txt_trl : ∀ {xs : List V} {ds : List D}, TrL K S H xs ds → ds.all isTxt = true → ∃ ss : List Str, xs = ss.map V.str ∧ ds = ss.map D.str
  | _, _, .nil, _ => ⟨[], rfl, rfl⟩
  | _, _, .cons (d := d) h t, q => by
    rw [List.all_cons, Bool.and_eq_true] at q
    obtain ⟨ss, rfl, rfl⟩ := txt_trl t q.2
    cases d with
    | str s => cases h; exact ⟨s :: ss, rfl, rfl⟩
    | _ => cases q.1
theorem txts_root {v : V} {d : D} (t : Tr K S H v d) (q : txts d = true) : ∃ a, ∃ ss : List Str, v = .ref a ∧ H a = some (.lst (ss.map V.str)) ∧ ¬ S a ∧ ss ≠ [] ∧ d = .lst (ss.map D.str) := by
  cases d with
  | lst ds =>
    have q : (!ds.isEmpty && ds.all isTxt) = true := q
    rw [Bool.and_eq_true] at q
    cases t with
    | lst h n t =>
      obtain ⟨ss, rfl, rfl⟩ := txt_trl t q.2
      exact ⟨_, ss, rfl, h, n, (fun e => by subst e; cases q.1), rfl⟩
  | _ => cases q
theorem trl_any {S2 : Addr → Prop} : ∀ {vs : List V} {ds : List D}, TrL K S H vs ds → ds.all txts = true → (∀ a, V.ref a ∈ vs → ¬ S2 a) → TrL K S2 H vs ds
  | _, _, .nil, _, _ => .nil
  | _, _, .cons h t, q, k => by
    rw [List.all_cons, Bool.and_eq_true] at q
    obtain ⟨a, ss, rfl, h1, _, _, rfl⟩ := txts_root h q.1
    exact .cons (.lst h1 (k a (List.mem_cons_self ..)) (TrL.ofStrs S2 H ss)) (trl_any t q.2 fun b hb => k b (List.mem_cons_of_mem _ hb))
theorem trl_root : ∀ {vs : List V} {ds : List D}, TrL K S H vs ds → ds.all txts = true → ∀ a, V.ref a ∈ vs → ∃ ss : List Str, H a = some (.lst (ss.map V.str)) ∧ ¬ S a ∧ ss ≠ []
  | _, _, .nil, _, a, h => by cases h
  | _, _, .cons h t, q, a, ha => by
    rw [List.all_cons, Bool.and_eq_true] at q
    obtain ⟨b, ss, rfl, h1, n, ne, _⟩ := txts_root h q.1
    rcases List.mem_cons.mp ha with e | ha
    · cases e
      exact ⟨ss, h1, n, ne⟩
    · exact trl_root t q.2 a ha
end
theorem Rep.drop {C : Cxt} {S : AS} {g : G} {σ : L2.St} {H : Hp} (r : Rep C S g σ H) {i : Nat} {x : Option V} (hf : free? g i = true) : Rep C S (g.set i .no) (σ.set i x) H := by
  have hi := free_lt hf
  have out : ∀ (j : Nat) (z : SD), z ≠ .no → (g.set i .no)[j]? = some z → g[j]? = some z ∧ (σ.set i x)[j]? = σ[j]? := fun j z hz e => by
    by_cases q : i = j
    · subst q
      rw [set_eq hi] at e
      exact absurd (Option.some.inj e).symm hz
    · rw [set_ne q] at e
      exact ⟨e, set_ne q⟩
  refine ⟨by rw [List.length_set, List.length_set]; exact r.len, fun j e q => ?_, fun j e q => ?_, fun j e q => ?_, fun j a q => ?_, fun j l e e' a h1 h2 q1 q2 => ?_, r.dom, r.sub, r.s0, r.i0, r.fr⟩
  · obtain ⟨q, w⟩ := out j _ (by intro z; cases z) q
    obtain ⟨v, h1, h2⟩ := r.im j e q
    exact ⟨v, by rw [w]; exact h1, h2⟩
  · obtain ⟨q, w⟩ := out j _ (by intro z; cases z) q
    obtain ⟨v, h1, h2⟩ := r.mu j e q
    exact ⟨v, by rw [w]; exact h1, h2⟩
  · obtain ⟨q, w⟩ := out j _ (by intro z; cases z) q
    obtain ⟨v, h1, h2⟩ := r.io j e q
    exact ⟨v, by rw [w]; exact h1, h2⟩
  · obtain ⟨e, q⟩ := r.iob j a q
    have z : i ≠ j := fun z => free_io hf e (z ▸ q)
    exact ⟨e, by rw [set_ne z]; exact q⟩
  · have k : ∀ (x : Nat) (y : D), ((g.set i .no)[x]? = some (.mu y) ∨ (g.set i .no)[x]? = some (.io y)) → (g[x]? = some (.mu y) ∨ g[x]? = some (.io y)) ∧ (σ.set i _)[x]? = σ[x]? := fun x y h => by
      rcases h with h | h
      · obtain ⟨q, w⟩ := out x _ (by intro z; cases z) h; exact ⟨.inl q, w⟩
      · obtain ⟨q, w⟩ := out x _ (by intro z; cases z) h; exact ⟨.inr q, w⟩
    obtain ⟨k1, w1⟩ := k j e h1
    obtain ⟨k2, w2⟩ := k l e' h2
    rw [w1] at q1
    rw [w2] at q2
    exact r.sep j l e e' a k1 k2 q1 q2
/-- what a call that tells a fresh pair has made -/
def NewPair (K : PySem.W.Frag) (H1 H2 : Hp) (v : V) (d : D) : Prop := freshD d = true → ∃ p x q, ∃ ws : List V, v = .ref p ∧ H2 p = some (.tup [x, .ref q]) ∧ H2 q = some (.lst ws) ∧ H1 q = none ∧ ws.length < sizeLine
theorem new_pair {K : PySem.W.Frag} {S0 : Addr → Prop} {H1 H2 : Hp} {v : V} {d : D} (sm : Same H1 H2) (hs : ∀ b, H1 b ≠ none → ¬ S0 b → ∃ ss : List Str, H1 b = some (.lst (ss.map V.str)) ∧ ss ≠ []) (t : Tr K S0 H2 v d) : NewPair K H1 H2 v d := fun hf => by
  unfold freshD at hf
  split at hf
  · rename_i x es
    rw [Bool.and_eq_true] at hf
    cases t with
    | tup h n t =>
      obtain ⟨w1, w2, rfl, t1, t2⟩ := trl2 t
      cases t2 with
      | lst hq nq tq =>
        rename_i q ws
        refine ⟨_, w1, q, ws, rfl, h, hq, ?_, by rw [tq.length]; exact of_decide_eq_true hf.2⟩
        refine Classical.byContradiction fun ne => ?_
        obtain ⟨ss, h1, h2⟩ := hs q ne nq
        have e := (sm _ _ h1).symm.trans hq
        injection e with e
        injection e with e
        subst e
        obtain ⟨s, r, rfl⟩ := List.exists_cons_of_ne_nil h2
        cases tq with
        | cons t3 t4 =>
          cases t3 with
          | str => cases (show (false && _) = true from hf.1)
          | ob => cases (show (false && _) = true from hf.1)
    | tupK h t q => cases (show (false && _) = true from q)
  · cases hf
section
variable {X : Cx} {C : Cxt} {E : XK} {F : MS} {N np i : Nat} {fs fa : MA} {f2 f3 : MF} {Z : Ends} {σ : L2.St} {H : Hp}
theorem ts_fresh (hn : ∀ ds g g', fs g = some (.ok ds g') → ds.length = np) (h : ts C E (sFresh i F N fs f2 f3 fa) Z σ H) :
    tSeq (tAsg (tCall (spD C.K C.mg np N F) [] E (ta C E true fs)) (gName i)) (tSeq (tIfS (tb C E false f2) (ts C E (sRet (mC (.bl false)))) tNext)
      (tIfS (tb C E false f3) (tDrop (tBM C.K "list" rAppend (tOp (rIx C.K) (tVar i) (tC (.int 1))) (ta C E false fa))) tNext)) Z σ H := by
  obtain ⟨S, g, rp, h⟩ := h
  refine ⟨S, g, rp, ?_⟩
  unfold sFresh at h
  cases e : fs g with
  | none => rw [e] at h; exact h.elim
  | some z =>
    rw [e] at h
    cases z with
    | ex c g' => exact h.elim
    | ok ds g1 =>
      intro vs H1 r1 m1 t1
      try simp only at h
      by_cases hq : ds.all txts = true ∧ free? g1 i = true
      · rw [if_pos hq] at h
        have root := trl_root t1 hq.1
        have hS : ∀ b, S.s b → H1 b ≠ none ∧ ¬ V.ref b ∈ vs := fun b hb => ⟨r1.dom b hb, fun z => by
          obtain ⟨_, _, n, _⟩ := root b z
          exact n hb⟩
        have t2 : TrL C.K (fun b => H1 b ≠ none ∧ ¬ V.ref b ∈ vs) H1 vs ds := trl_any t1 hq.1 fun a ha z => z.2 ha
        refine ⟨by rw [List.append_nil, t1.length]; exact hn ds g g1 e, fun b => H1 b ≠ none ∧ ¬ V.ref b ∈ vs, fun _ => none, ds.map .im, (fun _ _ z => nomatch z), ?_, ?_⟩
        · rw [List.append_nil]
          have rc := rep_callee r1 t1
          exact ⟨rc.len, fun j d q => by
            obtain ⟨v, h1, h2⟩ := t2.get (getL (vs := vs) q)
            exact ⟨v, by rw [List.getElem?_map, h1]; rfl, h2⟩, fun j d q => absurd q noMutL.1, fun j d q => absurd q noMutL.2, rc.iob, rc.sep, fun a ha => ha.1, fun a ha => ha, fun a ha => ha.1, (fun _ _ q => nomatch q), rc.fr⟩
        show EndP _ H1 _ E (callM F N ds)
        cases ec : callM F N ds with
        | none => rw [ec] at h; exact h.elim
        | some z =>
          rw [ec] at h
          cases z with
          | nx g2 => exact h.elim
          | bk g2 => exact h.elim
          | ct g2 => exact h.elim
          | ex c g2 => exact h.elim
          | rt n d g2 =>
            intro v σ' S' H2 r' vl _
            have sm : Same H1 H2 := fun b o e => r'.fr b o e fun _ z => nomatch z
            have np := new_pair sm (fun b hb nb => by
              have hb2 : V.ref b ∈ vs := Classical.byContradiction fun z => nb ⟨hb, z⟩
              obtain ⟨ss, h1, _, h2⟩ := root b hb2
              exact ⟨ss, h1, h2⟩) vl.1
            have tv : Tr C.K S.s H2 v d := Tr.stp (stp_sub fun a ha => hS a ha) d v vl.1
            have r2 : Rep C S (g1.set i (.im d)) (σ.set i (some v)) H2 := (r1.grow sm).put hq.2 tv
            refine ⟨S, g1.set i (.im d), r2, ?_⟩
            have fin : ∀ H', Same H1 H' → RtP C E S H Z (some (.nx (g1.set i .no))) → Z.nx (σ.set i (some v)) H' := fun H' k h => h _ S H' ((r1.grow k).drop hq.2) (m1.stp.trans (.ext k))
            try simp only at h
            cases e2 : f2 (g1.set i (.im d)) with
            | none => rw [e2] at h; exact h.elim
            | some z =>
              rw [e2] at h
              cases z with
              | ex c g' => exact h.elim
              | ok n2 b g2 =>
                cases b with
                | bl b =>
                  cases b with
                  | true => exact ⟨true, rfl, fun H3 r3 m3 => iteT ⟨S, g2, r3, h⟩⟩
                  | false =>
                    refine ⟨false, rfl, fun H3 r3 m3 => iteF ⟨S, g2, r3, ?_⟩⟩
                    have k3 : Same H1 H3 := sm.trans m3
                    try simp only at h
                    cases e3 : f3 g2 with
                    | none => rw [e3] at h; exact h.elim
                    | some z =>
                      rw [e3] at h
                      cases z with
                      | ex c g' => exact h.elim
                      | ok n3 b g3 =>
                        cases b with
                        | bl b =>
                          cases b with
                          | false => exact ⟨false, rfl, fun H4 r4 m4 => iteF (fin H4 (k3.trans m4) h)⟩
                          | true =>
                            try simp only at h
                            by_cases hf : freshD d = true
                            · rw [if_pos hf] at h
                              obtain ⟨p, x, q, ws, rfl, hp, hqq, hnq, hz⟩ := np hf
                              refine ⟨true, rfl, fun H4 r4 m4 => iteT ?_⟩
                              have k4 : Same H2 H4 := Same.trans m3 m4
                              have hi : i < σ.length := by rw [r1.len]; exact free_lt hq.2
                              refine ⟨_, set_eq hi, .inr (.inl ⟨p, [x, .ref q], 1, .ref q, rfl, rfl, SqT.of (k4 _ _ hp), rfl, .inl ⟨rfl, ws, SqL.of (k4 _ _ hqq)⟩, S, g3, r4, ?_⟩)⟩
                              cases e4 : fa g3 with
                              | none => rw [e4] at h; exact h.elim
                              | some z =>
                                rw [e4] at h
                                cases z with
                                | ex c g' => exact h.elim
                                | ok ds4 g4 =>
                                  intro vs4 H5 r5 m5 t5
                                  try simp only at h
                                  split at h
                                  · rename_i w g4' e5
                                    cases e5
                                    obtain ⟨y, rfl, _⟩ := trl1 t5
                                    have k5 : Same H2 H5 := k4.trans m5
                                    refine ⟨q, ws, y, rfl, rfl, k5 _ _ hqq, hz, fin _ (fun b o eb => ?_) h⟩
                                    rw [upd_ne (ne_of_none eb hnq)]
                                    exact (sm.trans k5) b o eb
                                  · exact h.elim
                            · rw [if_neg hf] at h
                              exact h.elim
                        | _ => exact h.elim
                | _ => exact h.elim
      · rw [if_neg hq] at h
        exact h.elim
theorem ss_fresh {st1 : Stmt} {t2 t3 ap : Expr} {r2 : Stmt} {p2 p3 p4 : Pos} (hn : ∀ ds g g', fs g = some (.ok ds g') → ds.length = np)
    (h1 : PS X st1 (tAsg (tCall (spD C.K C.mg np N F) [] E (ta C E true fs)) (gName i))) (h2 : PT X t2 (tb C E false f2)) (hr : PS X r2 (ts C E (sRet (mC (.bl false)))))
    (h3 : PT X t3 (tb C E false f3)) (h4 : PS X (.Expr ap p4) (tDrop (tBM C.K "list" rAppend (tOp (rIx C.K) (tVar i) (tC (.int 1))) (ta C E false fa)))) :
    PSs X [st1, .If t2 [r2] [] p2, .If t3 [.Expr ap p4] [] p3] (ts C E (sFresh i F N fs f2 f3 fa)) :=
  PSs.imp (pss_cons h1 (pss_cons (ps_if h2 (pss_one hr) pss_nil) (pss_one (ps_if h3 (pss_one h4) pss_nil)))) fun _ _ _ => ts_fresh hn
end
end TL
namespace TL
open PySem PySem.Spec PyProof.Rows L2
section
variable {X : Cx} {C : Cxt} {E : XK} {m : Bool} {F : MS} {N np k : Nat} {fs : MA} {x : Str} {p pos : Pos} {e : Expr} {es : List Expr}
theorem pe_callKD (h : Kn X.prog X.w X.K X.mg X.base x k np N F) (hr : Room k X.A) (hx : Passes (L2.CX X.prog X.w) X E) (ha : PA X (e :: es) (ta C E m fs)) (hg : Gl X x := by rfl) (hK : C.K = X.K := by rfl) (hM : C.mg = X.mg := by rfl)
    (hdb : (x == ("__debug__" : Str)) = false := by decide) (he : starEach (e :: es) X.env = (false, eval e X.env) :: starEach es X.env := by rfl) (hpl : (backTo pos (starEach es X.env)).any (·.1) = false := by rfl) :
    PE X (.Call (.Name x p) (e :: es) [] pos) (tCall (spD C.K C.mg np N F) [] E (ta C E m fs)) := by
  obtain ⟨f, fd, ps, G, h1, h2, h3⟩ := h
  rw [hK, hM]
  exact pe_call G hr hg h1 h2 h3 .nil hx ha hdb he hpl
end
end TL
set_option Elab.async false
set_option linter.all false
set_option maxRecDepth 100000
namespace TL
open PySem PySem.Spec PyProof.Rows L2
instance (i j : Int) : Decidable (CDivW i j) := by unfold CDivW; infer_instance
def fdivX : D → D → Option (Bool × D)
  | .int i, .int j => if CDivW i j then some (false, .int (i / j)) else none
  | _, _ => none
theorem l_fdivX {K : PySem.W.Frag} : L2r K (rI CDivW fun i j => .int (i / j)) fdivX := fun S H x y d e n z Q dm tx ty ho k => by
  unfold fdivX at ho
  split at ho
  · cases tx; cases ty
    split at ho
    · rename_i hz
      exact ⟨_, _, rfl, rfl, hz, fin1 ho (.int _) k⟩
    · cases ho
  · cases ho
end TL
namespace Sh
open PySem TL
def m__law_pool : MS :=
  (sSeq (sSet 2 (mC (.int 0)))
  (sSeq (sIf (mBool (mBin ltD (mVar 1) (mB lenD (aCons (mVar 0) aNil)))) (sSet 2 (mBin ixD (mVar 0) (mVar 1))) sNext)
  (sSeq (sIf (mBool (mBin geD (mVar 2) (mBin powD (mC (.int 10)) (mC (.int 18))))) (sRet (mLst (aCons (mBin subD (mVar 2) (mBin powD (mC (.int 10)) (mC (.int 18)))) (aCons (mC (.int 1)) (aCons (mC (.int 0)) aNil))))) sNext)
  (sRet (mLst (aCons (mVar 2) (aCons (mC (.int 0)) (aCons (mBin mulX (mC (.int 67)) (mVar 1)) aNil))))))))
def m__law_take : MS :=
  (sSeq (sIf (mBool (mBin eqD (mRd 0 ixD (mC (.int 1))) (mC (.int 1)))) (sSeq (sSet 2 (mBin modD (mRd 0 ixD (mC (.int 0))) (mVar 1)))
  (sSeq (sSetIx 0 setD (mC (.int 0)) (mBin fdivD (mRd 0 ixD (mC (.int 0))) (mVar 1)))
  (sRet (mVar 2)))) sNext)
  (sSeq (sSetIx 0 setD (mC (.int 2)) (mBin addD (mRd 0 ixD (mC (.int 2))) (mC (.int 1))))
  (sSeq (sSet 3 (mRd 0 ixD (mC (.int 2))))
  (sSeq (sSet 4 (mBin mulX (mBin addD (mBin modD (mRd 0 ixD (mC (.int 0))) (mC (.int 9999999491))) (mC (.int 1033))) (mBin addD (mBin mulX (mC (.int 59)) (mVar 3)) (mC (.int 89)))))
  (sSeq (sSet 4 (mBin addD (mVar 4) (mBin mulX (mBin mulX (mC (.int 3613)) (mVar 3)) (mVar 3))))
  (sSeq (sSet 4 (mBin modD (mBin mulX (mVar 4) (mVar 4)) (mC (.int 99999999559))))
  (sRet (mBin modD (mBin fdivD (mBin modD (mBin mulX (mVar 4) (mBin addD (mVar 4) (mC (.int 71)))) (mC (.int 99999999839))) (mC (.int 127))) (mVar 1)))))))))
def m__law_sign : MS :=
  (sSeq (sIf (mBool (mBin gtD (mVar 1) (mC (.int 0)))) (sRet (mBin ixD (mC (.str "#.ab")) (mCallIo 0 Sh.m__law_take 5 (aCons (mVar 1) aNil)))) sNext)
  (sSeq (sSet 2 (mC (.str "!\"#$&'()*+,-./0123456789:;<=>@ABCDEFGHIJKLMNOPQRSTUVWXYZ[\\]^_`abcdefghijklmnopqrstuvwxyz{|}~")))
  (sRet (mBin ixD (mVar 2) (mCallIo 0 Sh.m__law_take 5 (aCons (mB lenD (aCons (mVar 2) aNil)) aNil))))))
def m__law_side : MS :=
  (sSeq (sSet 2 (mCallIo 0 Sh.m__law_take 5 (aCons (mC (.int 4)) aNil)))
  (sSeq (sIf (mBool (mBin eqD (mVar 2) (mC (.int 0)))) (sRet (mVar 1)) sNext)
  (sSeq (sIf (mBool (mBin eqD (mVar 2) (mC (.int 1)))) (sRet (mBin addD (mC (.int 1)) (mCallIo 0 Sh.m__law_take 5 (aCons (mVar 1) aNil)))) sNext)
  (sRet (mBin addD (mC (.int 1)) (mCallIo 0 Sh.m__law_take 5 (aCons (mB min2D (aCons (mVar 1) (aCons (mC (.int 6)) aNil))) aNil)))))))
def m__law_table : MS :=
  (sSeq (sSet 4 (mBin ixD (mLst (aCons (mC (.int 0)) (aCons (mC (.int 1)) (aCons (mC (.int 2)) (aCons (mC (.int 4)) aNil))))) (mCallIo 0 Sh.m__law_take 5 (aCons (mC (.int 4)) aNil))))
  (sSeq (sSetMu 5 (mLst aNil))
  (sSeq (sFor (iOf range1D (aCons (mVar 1) aNil)) (putIm 6) (sSeq (sSet 7 (mC (.str "")))
  (sSeq (sFor (iOf range1D (aCons (mVar 2) aNil)) (putIm 8) (sSeq (sSet 9 (mCallIo 0 Sh.m__law_sign 3 (aCons (mVar 4) aNil)))
  (sSeq (sIf (mAndT (mBool (mBin gtD (mVar 3) (mC (.int 0)))) (mBool (mBin eqD (mCallIo 0 Sh.m__law_take 5 (aCons (mVar 3) aNil)) (mC (.int 0))))) (sSet 9 (mC (.str "?"))) sNext)
  (sSet 7 (mBin addD (mVar 7) (mVar 9))))))
  (sExpr (mMut 5 "list" appD (aCons (mVar 7) aNil))))))
  (sRetMu 5))))
def m__law_little : MS :=
  (sRet (mCallIo 0 Sh.m__law_table 10 (aCons (mCallIo 0 Sh.m__law_side 3 (aCons (mVar 1) aNil)) (aCons (mCallIo 0 Sh.m__law_side 3 (aCons (mVar 1) aNil)) (aCons (mBin ixD (mLst (aCons (mC (.int 0)) (aCons (mC (.int 9)) (aCons (mC (.int 3)) (aCons (mC (.int 1)) aNil))))) (mCallIo 0 Sh.m__law_take 5 (aCons (mC (.int 4)) aNil))) aNil)))))
end Sh
namespace Sp
open PySem TL
def m__is_mirrored : MS :=
  (sRet (mM "str" startsD (mVar 0) (aCons (mC (.str "m")) aNil)))
def m__turns_of : MS :=
  (sRet (mB intD (aCons (mBin ixD (mVar 0) (mUn negD (mC (.int 1)))) aNil)))
end Sp
namespace Sp
open PySem TL
def m__has_even_rows : MS :=
  (sSeq (sIf (mOrT (mBool (mBin isntD (mB typD (aCons (mVar 0) aNil)) (mC (.ob (.ty "list"))))) (mBool (mBin eqD (mB lenD (aCons (mVar 0) aNil)) (mC (.int 0))))) (sRet (mC (.bl false))) sNext)
  (sSeq (sFor (iItems (mVar 0)) (putIm 1) (sIf (mOrT (mBool (mBin isntD (mB typD (aCons (mVar 1) aNil)) (mC (.ob (.ty "str"))))) (mOrT (mBool (mBin eqD (mB lenD (aCons (mVar 1) aNil)) (mC (.int 0)))) (mBool (mBin neD (mB lenD (aCons (mVar 1) aNil)) (mB lenD (aCons (mBin ixD (mVar 0) (mC (.int 0))) aNil)))))) (sRet (mC (.bl false))) sNext))
  (sRet (mC (.bl true)))))
def m__has_signs_only : MS :=
  (sRet (mB allD (aCons (mComp (iItems (mVar 0)) (putIm 1) none (mChain leD leD (mC (.str "!")) (mVar 1) (mC (.str "~"))) [1]) aNil)))
def m__mirrored_rows : MS :=
  (sRet (mComp (iItems (mVar 0)) (putIm 1) none (mUn revA (mVar 1)) [1]))
def m__column_upwards : MS :=
  (sRet (mM "str" joinD (mC (.str "")) (aCons (mComp (iItems (mUn revA (mVar 0))) (putIm 2) none (mBin ixD (mVar 2) (mVar 1)) [2]) aNil)))
def m_is_little : MS :=
  (sRet (mAndV (mCall Sp.m__has_even_rows 2 (aCons (mVar 0) aNil)) (mB allD (aCons (mComp (iItems (mVar 0)) (putIm 1) none (mCall Sp.m__has_signs_only 2 (aCons (mVar 1) aNil)) [1]) aNil))))
def m__turned_rows : MS :=
  (sRet (mComp (iOf range1D (aCons (mB lenD (aCons (mBin ixD (mVar 0) (mC (.int 0))) aNil)) aNil)) (putIm 1) none (mCall Sp.m__column_upwards 3 (aCons (mVar 0) (aCons (mVar 1) aNil))) [1]))
def m_check_little : MS :=
  (sIf (mNotT (mCall Sp.m_is_little 2 (aCons (mVar 0) aNil))) (sRaise "NoTable") sNext)
end Sp
namespace Sp
open PySem TL
def m_rows_in_pose : MS :=
  (sSeq (sSetMu 2 (mIf (mCall Sp.m__is_mirrored 1 (aCons (mVar 1) aNil)) (mCall Sp.m__mirrored_rows 2 (aCons (mVar 0) aNil)) (mB listA (aCons (mVar 0) aNil))))
  (sSeq (sFor (iOf range1D (aCons (mCall Sp.m__turns_of 1 (aCons (mVar 1) aNil)) aNil)) (putIm 3) (demote 2 (sSetMu 2 (mCall Sp.m__turned_rows 2 (aCons (mVar 2) aNil)))))
  (sRetMu 2)))
end Sp
namespace Sp
open PySem TL
def m_cells_of_signs : MS :=
  (sSeq (sSetMu 1 (mLst aNil))
  (sSeq (sFor (iOf enumX (aCons (mVar 0) aNil)) (gTupD 2 (gsCons (putIm 2) (gsCons (putIm 3) gsNil))) (sFor (iOf enumX (aCons (mVar 3) aNil)) (gTupD 2 (gsCons (putIm 4) (gsCons (putIm 5) gsNil))) (sIf (mBool (mBin neD (mVar 5) (mC (.str "?")))) (sExpr (mMut 1 "list" appD (aCons (mTup (aCons (mVar 2) (aCons (mVar 4) (aCons (mVar 5) aNil)))) aNil))) sNext)))
  (sRetMu 1)))
def m__lies_wholly : MS :=
  (sSeq (sAsg (gTupD 2 (gsCons (putIm 3) (gsCons (putIm 4) gsNil))) (mVar 2))
  (sSeq (sIf (mOrT (mBool (mBin ltD (mVar 3) (mC (.int 0)))) (mBool (mBin ltD (mVar 4) (mC (.int 0))))) (sRet (mC (.bl false))) sNext)
  (sRet (mAndV (mBin leD (mBin addD (mVar 3) (mB lenD (aCons (mVar 1) aNil))) (mB lenD (aCons (mVar 0) aNil))) (mBin leD (mBin addD (mVar 4) (mB lenD (aCons (mBin ixD (mVar 1) (mC (.int 0))) aNil))) (mB lenD (aCons (mBin ixD (mVar 0) (mC (.int 0))) aNil)))))))
def m_is_table : MS :=
  (sRet (mAndV (mCall Sp.m_is_little 2 (aCons (mVar 0) aNil)) (mB allD (aCons (mComp (iItems (mVar 0)) (putIm 1) none (mBin ninY (mC (.str "?")) (mVar 1)) [1]) aNil))))
def m_check_table : MS :=
  (sIf (mNotT (mCall Sp.m_is_table 2 (aCons (mVar 0) aNil))) (sRaise "NoTable") sNext)
def m_check_both : MS :=
  (sSeq (sExpr (mCall Sp.m_check_table 1 (aCons (mVar 0) aNil)))
  (sExpr (mCall Sp.m_check_little 1 (aCons (mVar 1) aNil))))
end Sp
namespace Sg
open PySem TL
def m__law_stir : MS :=
  (sSeq (sSet 2 (mBin modD (mBin mulX (mBin addD (mBin addD (mBin modD (mVar 0) (mC (.int 2147483629))) (mBin mulX (mC (.int 9973)) (mVar 1))) (mC (.int 5))) (mC (.int 48271))) (mC (.int 2147483647))))
  (sSeq (sSet 2 (mBin modD (mBin mulX (mVar 2) (mVar 2)) (mC (.int 2147483587))))
  (sRet (mBin fdivD (mBin modD (mBin mulX (mBin addD (mVar 2) (mBin mulX (mC (.int 7919)) (mVar 1))) (mC (.int 16807))) (mC (.int 2147483563))) (mC (.int 8))))))
def m__law_next : MS :=
  (sSeq (sIf (mBool (mBin eqD (mRd1 0 lenD) (mC (.int 1)))) (sExpr (mMut 0 "list" insD (aCons (mC (.int 0)) (aCons (mBin mulX (mCall Sg.m__law_stir 3 (aCons (mRd 0 ixD (mC (.int 0))) (aCons (mC (.int 7)) aNil))) (mB intD (aCons (mBin gtD (mRd 0 ixD (mC (.int 0))) (mC (.int 0))) aNil))) aNil)))) sNext)
  (sRet (mMut 0 "list" popD aNil)))
def m__law_signs : MS :=
  (sSeq (sSetMu 1 (mB listA (aCons (mC (.str "!\"#$&'()*+,-./0123456789:;<=>@ABCDEFGHIJKLMNOPQRSTUVWXYZ[\\]^_`abcdefghijklmnopqrstuvwxyz{|}~")) aNil)))
  (sSeq (sSet 2 (mBin ixD (mLst (aCons (mC (.int 1)) (aCons (mC (.int 2)) (aCons (mC (.int 2)) (aCons (mC (.int 3)) (aCons (mC (.int 3)) (aCons (mC (.int 12)) (aCons (mC (.int 92)) aNil)))))))) (mBin modD (mCallIo 0 Sg.m__law_next 1 aNil) (mC (.int 7)))))
  (sSeq (sIf (mBool (mBin eqD (mVar 2) (mC (.int 92)))) (sSeq (sSet 3 (mBin modD (mCallIo 0 Sg.m__law_next 1 aNil) (mRd1 1 lenD)))
  (demote 1 (sRet (mBin addD (mSl slD (mVar 1) (some (mVar 3)) none) (mSl slD (mVar 1) none (some (mVar 3))))))) sNext)
  (sRet (mComp (iOf range1D (aCons (mVar 2) aNil)) (putIm 4) none (mMut 1 "list" popAtD (aCons (mBin modD (mCallIo 0 Sg.m__law_next 1 aNil) (mRd1 1 lenD)) aNil)) [4])))))
def m__law_cut : MS :=
  (sSeq (sSet 3 (mBin addD (mC (.int 1)) (mBin modD (mCallIo 0 Sg.m__law_next 1 aNil) (mB min2D (aCons (mVar 2) (aCons (mBin addD (mB lenD (aCons (mVar 1) aNil)) (mC (.int 1))) aNil))))))
  (sSeq (sSet 4 (mBin addD (mC (.int 1)) (mBin modD (mCallIo 0 Sg.m__law_next 1 aNil) (mB min2D (aCons (mVar 2) (aCons (mBin addD (mB lenD (aCons (mBin ixD (mVar 1) (mC (.int 0))) aNil)) (mC (.int 1))) aNil))))))
  (sSeq (sSet 5 (mBin modD (mCallIo 0 Sg.m__law_next 1 aNil) (mB lenD (aCons (mVar 1) aNil))))
  (sSeq (sSet 6 (mBin modD (mCallIo 0 Sg.m__law_next 1 aNil) (mB lenD (aCons (mBin ixD (mVar 1) (mC (.int 0))) aNil))))
  (sSeq (sSetMu 7 (mLst aNil))
  (sSeq (sFor (iOf range1D (aCons (mVar 3) aNil)) (putIm 8) (sSeq (sSet 9 (mBin ixD (mVar 1) (mBin modD (mBin addD (mVar 5) (mVar 8)) (mB lenD (aCons (mVar 1) aNil)))))
  (sExpr (mMut 7 "list" appD (aCons (mM "str" joinD (mC (.str "")) (aCons (mComp (iOf range1D (aCons (mVar 4) aNil)) (putIm 10) none (mBin ixD (mVar 9) (mBin modD (mBin addD (mVar 6) (mVar 10)) (mB lenD (aCons (mVar 9) aNil)))) [10]) aNil)) aNil)))))
  (sRetMu 7)))))))
def m__law_great : MS :=
  (sSeq (sSet 2 (mBin addD (mC (.int 1)) (mBin modD (mCallIo 0 Sg.m__law_next 1 aNil) (mBin ixD (mVar 1) (mBin modD (mCallIo 0 Sg.m__law_next 1 aNil) (mB lenD (aCons (mVar 1) aNil)))))))
  (sSeq (sSet 3 (mBin addD (mC (.int 1)) (mBin modD (mCallIo 0 Sg.m__law_next 1 aNil) (mBin ixD (mVar 1) (mBin modD (mCallIo 0 Sg.m__law_next 1 aNil) (mB lenD (aCons (mVar 1) aNil)))))))
  (sSeq (sSet 4 (mCallIo 0 Sg.m__law_signs 5 aNil))
  (sSeq (sSet 5 (mBin modD (mCallIo 0 Sg.m__law_next 1 aNil) (mC (.int 4))))
  (sSeq (sSet 6 (mCallIo 0 Sg.m__law_next 1 aNil))
  (sSeq (sSet 7 (mBin modD (mCallIo 0 Sg.m__law_next 1 aNil) (mC (.int 5))))
  (sSeq (sSet 8 (mBin modD (mCallIo 0 Sg.m__law_next 1 aNil) (mC (.int 5))))
  (sSeq (sSetMu 9 (mLst aNil))
  (sSeq (sFor (iOf range1D (aCons (mVar 2) aNil)) (putIm 10) (sSeq (sSet 11 (mC (.str "")))
  (sSeq (sFor (iOf range1D (aCons (mVar 3) aNil)) (putIm 12) (sSeq (sSet 13 (mCall Sg.m__law_stir 3 (aCons (mVar 6) (aCons (mBin addD (mBin mulX (mVar 10) (mVar 3)) (mVar 12)) aNil))))
  (sSeq (sSet 14 (mBin ixD (mLst (aCons (mVar 13) (aCons (mBin addD (mBin mulX (mVar 10) (mVar 7)) (mBin mulX (mVar 12) (mVar 8))) (aCons (mBin addD (mBin fdivD (mVar 10) (mBin addD (mC (.int 1)) (mVar 7))) (mBin fdivD (mVar 12) (mBin addD (mC (.int 1)) (mVar 8)))) (aCons (mBin fdivD (mBin modD (mVar 13) (mC (.int 7))) (mC (.int 6))) aNil))))) (mVar 5)))
  (sSet 11 (mBin addD (mVar 11) (mBin ixD (mVar 4) (mBin modD (mVar 14) (mB lenD (aCons (mVar 4) aNil)))))))))
  (sExpr (mMut 9 "list" appD (aCons (mVar 11) aNil))))))
  (sRetMu 9))))))))))
def m__law_little : MS :=
  (sSeq (sSetMu 3 (mCallIo 0 Sg.m__law_cut 11 (aCons (mVar 1) (aCons (mVar 2) aNil))))
  (sSeq (sSet 4 (mBin modD (mCallIo 0 Sg.m__law_next 1 aNil) (mC (.int 8))))
  (sSeq (sSet 5 (mCallIo 0 Sg.m__law_next 1 aNil))
  (sSeq (sSet 6 (mBin ixD (mLst (aCons (mC (.int 0)) (aCons (mC (.int 0)) (aCons (mC (.int 2)) (aCons (mC (.int 3)) (aCons (mC (.int 6)) (aCons (mC (.int 3)) (aCons (mC (.int 0)) (aCons (mC (.int 1)) aNil))))))))) (mVar 4)))
  (sSeq (sFor (iOf range1D (aCons (mBin mulX (mRd1 3 lenD) (mB intD (aCons (mBin gtD (mVar 6) (mC (.int 0))) aNil))) aNil)) (putIm 7) (sSeq (sSet 8 (mComp (iOf range1D (aCons (mB lenD (aCons (mRd 3 ixD (mVar 7)) aNil)) aNil)) (putIm 9) none (mBin eqD (mBin modD (mCall Sg.m__law_stir 3 (aCons (mVar 5) (aCons (mBin addD (mBin mulX (mC (.int 12)) (mVar 7)) (mVar 9)) aNil))) (mVar 6)) (mC (.int 0))) [9]))
  (sSetIx 3 setD (mVar 7) (mM "str" joinD (mC (.str "")) (aCons (mComp (iOf zipX (aCons (mRd 3 ixD (mVar 7)) (aCons (mVar 8) aNil))) (gTupD 2 (gsCons (putIm 10) (gsCons (putIm 11) gsNil))) none (mBin ixD (mLst (aCons (mVar 10) (aCons (mC (.str "?")) aNil))) (mB intD (aCons (mVar 11) aNil))) [10, 11]) aNil)))))
  (sSeq (sIf (mAndT (mBool (mBin gtD (mVar 4) (mC (.int 4)))) (mBool (mBin neD (mVar 6) (mC (.int 1))))) (sSeq (sSet 7 (mBin modD (mCallIo 0 Sg.m__law_next 1 aNil) (mRd1 3 lenD)))
  (sSeq (sSet 9 (mBin modD (mCallIo 0 Sg.m__law_next 1 aNil) (mB lenD (aCons (mRd 3 ixD (mVar 7)) aNil))))
  (sSeq (sSet 10 (mBin ixD (mBin addD (mCallIo 0 Sg.m__law_signs 5 aNil) (mB listA (aCons (mSl slD (mM "str" joinD (mC (.str "")) (aCons (mVar 1) aNil)) none (some (mC (.int 40)))) aNil))) (mBin modD (mCallIo 0 Sg.m__law_next 1 aNil) (mC (.int 2)))))
  (sSetIx 3 setD (mVar 7) (mBin addD (mBin addD (mSl slD (mRd 3 ixD (mVar 7)) none (some (mVar 9))) (mVar 10)) (mSl slD (mRd 3 ixD (mVar 7)) (some (mBin addD (mVar 9) (mC (.int 1)))) none)))))) sNext)
  (sRetMu 3)))))))
end Sg
namespace Sp
open PySem TL
def m_cells_to_lie_at : MS :=
  (sSeq (sSet 2 (mBin addD (mBin subD (mB lenD (aCons (mVar 0) aNil)) (mB lenD (aCons (mVar 1) aNil))) (mC (.int 1))))
  (sSeq (sSet 3 (mBin addD (mBin subD (mB lenD (aCons (mBin ixD (mVar 0) (mC (.int 0))) aNil)) (mB lenD (aCons (mBin ixD (mVar 1) (mC (.int 0))) aNil))) (mC (.int 1))))
  (sRet (mComp2 (iOf range1D (aCons (mVar 2) aNil)) (putIm 4) (iOf range1D (aCons (mVar 3) aNil)) (putIm 5) (mTup (aCons (mVar 4) (aCons (mVar 5) aNil))) [4, 5] [5]))))
end Sp
namespace Sg
open PySem TL
end Sg
set_option linter.all false
set_option maxRecDepth 100000
namespace Sd
open PySem TL
def m__law_pool : MS :=
  (sSeq (sSet 2 (mC (.int 0)))
  (sSeq (sIf (mBool (mBin ltD (mVar 1) (mB lenD (aCons (mVar 0) aNil)))) (sSet 2 (mBin ixD (mVar 0) (mVar 1))) sNext)
  (sRet (mLst (aCons (mVar 2) (aCons (mB intD (aCons (mBin geD (mVar 2) (mBin powD (mC (.int 10)) (mC (.int 18)))) aNil)) (aCons (mBin mulX (mC (.int 61)) (mVar 1)) aNil)))))))
def m__law_draw : MS :=
  (sSeq (sIf (mBool (mBin eqD (mRd 0 ixD (mC (.int 1))) (mC (.int 1)))) (sSeq (sSet 2 (mBin modD (mRd 0 ixD (mC (.int 0))) (mVar 1)))
  (sSeq (sSetIx 0 setD (mC (.int 0)) (mBin fdivD (mRd 0 ixD (mC (.int 0))) (mVar 1)))
  (sRet (mVar 2)))) sNext)
  (sSeq (sSetIx 0 setD (mC (.int 2)) (mBin addD (mRd 0 ixD (mC (.int 2))) (mC (.int 1))))
  (sSeq (sSet 3 (mBin modD (mBin addD (mBin modD (mRd 0 ixD (mC (.int 0))) (mC (.int 999999999989))) (mBin mulX (mC (.int 620033)) (mRd 0 ixD (mC (.int 2))))) (mC (.int 999999999989))))
  (sSeq (sSet 3 (mBin modD (mBin mulX (mVar 3) (mVar 3)) (mC (.int 1000000000039))))
  (sSeq (sSet 3 (mBin modD (mBin mulX (mBin addD (mVar 3) (mC (.int 430019))) (mVar 3)) (mC (.int 999999999961))))
  (sRet (mBin modD (mBin fdivD (mVar 3) (mC (.int 7))) (mVar 1))))))))
def m__law_signs : MS :=
  (sSeq (sSet 2 (mC (.str "!\"#$&'()*+,-./0123456789:;<=>@ABCDEFGHIJKLMNOPQRSTUVWXYZ")))
  (sSeq (sSet 2 (mBin addD (mVar 2) (mC (.str "[\\]^_`abcdefghijklmnopqrstuvwxyz{|}~"))))
  (sSeq (sSet 3 (mCallIo 0 Sd.m__law_draw 4 (aCons (mB lenD (aCons (mVar 2) aNil)) aNil)))
  (sRet (mComp (iOf range1D (aCons (mVar 1) aNil)) (putIm 4) none (mBin ixD (mVar 2) (mBin modD (mBin addD (mVar 3) (mVar 4)) (mB lenD (aCons (mVar 2) aNil)))) [4])))))
def m__law_row : MS :=
  (sRet (mComp (iOf range1D (aCons (mVar 2) aNil)) (putIm 3) none (mBin ixD (mVar 1) (mCallIo 0 Sd.m__law_draw 4 (aCons (mB lenD (aCons (mVar 1) aNil)) aNil))) [3]))
def m__law_great : MS :=
  (sSeq (sSet 3 (mCallIo 0 Sd.m__law_signs 5 (aCons (mBin ixD (mLst (aCons (mC (.int 2)) (aCons (mC (.int 1)) (aCons (mC (.int 2)) (aCons (mC (.int 3)) (aCons (mC (.int 5)) (aCons (mC (.int 92)) aNil))))))) (mCallIo 0 Sd.m__law_draw 4 (aCons (mC (.int 6)) aNil))) aNil)))
  (sSeq (sIf (mBool (mBin eqD (mCallIo 0 Sd.m__law_draw 4 (aCons (mC (.int 3)) aNil)) (mC (.int 0)))) (sSeq (sSet 4 (mBin addD (mC (.int 1)) (mCallIo 0 Sd.m__law_draw 4 (aCons (mB min2D (aCons (mVar 1) (aCons (mC (.int 4)) aNil))) aNil))))
  (sSeq (sSet 5 (mBin addD (mC (.int 1)) (mCallIo 0 Sd.m__law_draw 4 (aCons (mB min2D (aCons (mVar 2) (aCons (mC (.int 4)) aNil))) aNil))))
  (sSeq (sSet 6 (mComp (iOf range1D (aCons (mVar 4) aNil)) (putIm 7) none (mCallIo 0 Sd.m__law_row 4 (aCons (mVar 3) (aCons (mVar 5) aNil))) [7]))
  (sSeq (sSetMu 8 (mLst aNil))
  (sSeq (sFor (iOf range1D (aCons (mVar 1) aNil)) (putIm 7) (sExpr (mMut 8 "list" appD (aCons (mM "str" joinD (mC (.str "")) (aCons (mComp (iOf range1D (aCons (mVar 2) aNil)) (putIm 9) none (mBin ixD (mBin ixD (mVar 6) (mBin modD (mVar 7) (mVar 4))) (mBin modD (mVar 9) (mVar 5))) [9]) aNil)) aNil))))
  (sRetMu 8)))))) sNext)
  (sRet (mComp (iOf range1D (aCons (mVar 1) aNil)) (putIm 7) none (mM "str" joinD (mC (.str "")) (aCons (mCallIo 0 Sd.m__law_row 4 (aCons (mVar 3) (aCons (mVar 2) aNil))) aNil)) [7]))))
def m__law_little : MS :=
  (sSeq (sSet 4 (mCallIo 0 Sd.m__law_draw 4 (aCons (mB lenD (aCons (mVar 1) aNil)) aNil)))
  (sSeq (sSet 5 (mCallIo 0 Sd.m__law_draw 4 (aCons (mB lenD (aCons (mBin ixD (mVar 1) (mC (.int 0))) aNil)) aNil)))
  (sSeq (sSet 6 (mBin ixD (mLst (aCons (mC (.int 0)) (aCons (mC (.int 0)) (aCons (mC (.int 2)) (aCons (mC (.int 4)) (aCons (mC (.int 1)) aNil)))))) (mCallIo 0 Sd.m__law_draw 4 (aCons (mC (.int 5)) aNil))))
  (sSeq (sSetMu 7 (mLst aNil))
  (sSeq (sFor (iOf range1D (aCons (mVar 2) aNil)) (putIm 8) (sSeq (sSet 9 (mBin ixD (mVar 1) (mBin modD (mBin addD (mVar 4) (mVar 8)) (mB lenD (aCons (mVar 1) aNil)))))
  (sSeq (sSet 10 (mComp (iOf range1D (aCons (mVar 3) aNil)) (putIm 11) none (mBin ixD (mVar 9) (mBin modD (mBin addD (mVar 5) (mVar 11)) (mB lenD (aCons (mVar 9) aNil)))) [11]))
  (sSeq (sIf (mBool (mBin gtD (mVar 6) (mC (.int 0)))) (sSet 10 (mComp (iItems (mVar 10)) (putIm 12) none (mBin ixD (mLst (aCons (mVar 12) (aCons (mC (.str "?")) aNil))) (mB intD (aCons (mBin eqD (mCallIo 0 Sd.m__law_draw 4 (aCons (mVar 6) aNil)) (mC (.int 0))) aNil))) [12])) sNext)
  (sExpr (mMut 7 "list" appD (aCons (mM "str" joinD (mC (.str "")) (aCons (mVar 10) aNil)) aNil)))))))
  (sSeq (sIf (mBool (mBin eqD (mCallIo 0 Sd.m__law_draw 4 (aCons (mC (.int 3)) aNil)) (mC (.int 0)))) (sSeq (sSet 8 (mCallIo 0 Sd.m__law_draw 4 (aCons (mVar 2) aNil)))
  (sSeq (sSet 11 (mCallIo 0 Sd.m__law_draw 4 (aCons (mVar 3) aNil)))
  (sSeq (sSet 12 (mBin ixD (mCallIo 0 Sd.m__law_signs 5 (aCons (mC (.int 1)) aNil)) (mC (.int 0))))
  (sSetIx 7 setD (mVar 8) (mBin addD (mBin addD (mSl slD (mRd 7 ixD (mVar 8)) none (some (mVar 11))) (mVar 12)) (mSl slD (mRd 7 ixD (mVar 8)) (some (mBin addD (mVar 11) (mC (.int 1)))) none)))))) sNext)
  (sRetMu 7)))))))
end Sd
set_option linter.all false
set_option maxRecDepth 100000
namespace Sp
open PySem TL
def m_unlike_poses : MS :=
  (sSeq (sExpr (mCall Sp.m_check_little 1 (aCons (mVar 0) aNil)))
  (sSeq (sSetMu 1 (mLst aNil))
  (sSeq (sSetMu 2 (mLst aNil))
  (sSeq (sFor (iItems (mC (.tup [(.str "0"), (.str "1"), (.str "2"), (.str "3"), (.str "m0"), (.str "m1"), (.str "m2"), (.str "m3")]))) (putIm 3) (sSeq (sSet 4 (mCall Sp.m_rows_in_pose 4 (aCons (mVar 0) (aCons (mVar 3) aNil))))
  (sIf (mBool (mFrz 2 (mBin ninY (mVar 4) (mVar 2)))) (sSeq (sExpr (mMut 2 "list" appD (aCons (mVar 4) aNil)))
  (sExpr (mMut 1 "list" appD (aCons (mVar 3) aNil)))) sNext)))
  (sRetMu 1)))))
end Sp
namespace Sh
open PySem TL
end Sh
set_option linter.all false
set_option maxRecDepth 100000
namespace Sp
open PySem TL
def m_is_whole : MS :=
  (sRet (mBin isD (mB typD (aCons (mVar 0) aNil)) (mC (.ob (.ty "int")))))
def m_is_count : MS :=
  (sRet (mAndV (mCall Sp.m_is_whole 1 (aCons (mVar 0) aNil)) (mBin geD (mVar 0) (mC (.int 0)))))
def m_is_cell : MS :=
  (sSeq (sIf (mOrT (mBool (mBin isntD (mB typD (aCons (mVar 0) aNil)) (mC (.ob (.ty "tuple"))))) (mBool (mBin neD (mB lenD (aCons (mVar 0) aNil)) (mC (.int 2))))) (sRet (mC (.bl false))) sNext)
  (sRet (mAndV (mCall Sp.m_is_count 1 (aCons (mBin ixD (mVar 0) (mC (.int 0))) aNil)) (mCall Sp.m_is_count 1 (aCons (mBin ixD (mVar 0) (mC (.int 1))) aNil)))))
end Sp
set_option linter.all false
set_option maxRecDepth 100000
namespace Sh
open PySem TL
end Sh
set_option Elab.async false
set_option linter.all false
set_option maxRecDepth 100000
set_option maxHeartbeats 8000000
namespace K26
open PySem PySem.Spec PyProof.Rows L2 TL
def topS (i : Nat) : Stmt := PySem.Challenge.pw_tablefind_k26_nearly_standing.main.body.getD i (.Pass ⟨0, 0, 0, 0⟩)
structure Txt (K : PySem.W.Frag) (mg : Str → Option Value) (t_FREE : Tok) (c_NoCell : Addr) (c_NoNumber : Addr) (c_NoPose : Addr) (c_NoTable : Addr) (c_TableError : Addr) (c_TooMany : Addr) : Prop where
  no_ValueError : mg "ValueError" = none
  no_all : mg "all" = none
  no_bool : mg "bool" = none
  no_enumerate : mg "enumerate" = none
  no_int : mg "int" = none
  no_isinstance : mg "isinstance" = none
  no_len : mg "len" = none
  no_list : mg "list" = none
  no_max : mg "max" = none
  no_min : mg "min" = none
  no_range : mg "range" = none
  no_repr : mg "repr" = none
  no_str : mg "str" = none
  no_tuple : mg "tuple" = none
  no_type : mg "type" = none
  no_zip : mg "zip" = none
  mg_FREE : mg "FREE" = some (.str "?" t_FREE)
  mg_NoCell : mg "NoCell" = some (.ref c_NoCell)
  xe_NoCell : PySem.W.excIn K c_NoCell [.type "ValueError", .type "Exception", .type "BaseException", .type "object"] "ValueError.__new__" = true
  ke_NoCell : PySem.W.keepIn K (.ref c_NoCell) = true
  be_NoCell : PySem.W.subIn K (.ref c_NoCell) (.type "BaseException") = some true
  te_NoCell : PySem.W.typeIn K (.ref c_NoCell) = some (.type "type")
  ns_NoCell : NameIn K "NoCell" c_NoCell
  mg_NoNumber : mg "NoNumber" = some (.ref c_NoNumber)
  xe_NoNumber : PySem.W.excIn K c_NoNumber [.type "ValueError", .type "Exception", .type "BaseException", .type "object"] "ValueError.__new__" = true
  ke_NoNumber : PySem.W.keepIn K (.ref c_NoNumber) = true
  be_NoNumber : PySem.W.subIn K (.ref c_NoNumber) (.type "BaseException") = some true
  te_NoNumber : PySem.W.typeIn K (.ref c_NoNumber) = some (.type "type")
  ns_NoNumber : NameIn K "NoNumber" c_NoNumber
  mg_NoPose : mg "NoPose" = some (.ref c_NoPose)
  ns_NoPose : NameIn K "NoPose" c_NoPose
  mg_NoTable : mg "NoTable" = some (.ref c_NoTable)
  xe_NoTable : PySem.W.excIn K c_NoTable [.type "ValueError", .type "Exception", .type "BaseException", .type "object"] "ValueError.__new__" = true
  ke_NoTable : PySem.W.keepIn K (.ref c_NoTable) = true
  be_NoTable : PySem.W.subIn K (.ref c_NoTable) (.type "BaseException") = some true
  te_NoTable : PySem.W.typeIn K (.ref c_NoTable) = some (.type "type")
  ns_NoTable : NameIn K "NoTable" c_NoTable
  mg_TableError : mg "TableError" = some (.ref c_TableError)
  cat_TableError : CatchN K mg (.ref c_TableError) ["NoCell", "NoNumber", "NoTable"]
  mg_TooMany : mg "TooMany" = some (.ref c_TooMany)
  ns_TooMany : NameIn K "TooMany" c_TooMany
  clsK : ClsK K ["NoCell", "NoNumber", "NoTable"] ["NoCell", "NoNumber", "NoPose", "NoTable", "TooMany"]
section
variable {P : Program} {w : World} {K : PySem.W.Frag} {mg : Str → Option Value} {base : Heap} {t_FREE : Tok} {c_NoCell : Addr} {c_NoNumber : Addr} {c_NoPose : Addr} {c_NoTable : Addr} {c_TableError : Addr} {c_TooMany : Addr}
abbrev s_is_whole : Stmt := topS 1
theorem sc_is_whole : FnScope ["thing"] ["thing"] (defScope s_is_whole) := ⟨rfl, rfl, rfl, by decide +kernel, rfl, by decide +kernel, by decide +kernel⟩
abbrev m_is_whole : MS := Sp.m_is_whole
theorem ok_is_whole {f : Addr} {fd : FuncData} (Fu : Fun K "is_whole" "is_whole" s_is_whole f fd) (T : Txt K mg t_FREE c_NoCell c_NoNumber c_NoPose c_NoTable c_TableError c_TooMany)  : FnOk P w K mg base (L2.CX P w) 1 f fd ["thing"] (spD K mg 1 1 m_is_whole) :=
  fnD Fu sc_is_whole fun cdv A outer s H E S0 io hr => (ss_one (s_ret (ps_ret (e_cmp o_is l_is (e_callTy c_typ l_typ (by rfl) T.no_type PyProof.Rows.boot_type (a_cons (e_var (pv 0)) a_nil)) (e_ty (v := .ty "int") (by rfl) T.no_int PyProof.Rows.boot_int rfl) (nomark _)))))
abbrev s__has_even_rows : Stmt := topS 13
theorem sc__has_even_rows : FnScope ["thing", "row"] ["thing"] (defScope s__has_even_rows) := ⟨rfl, rfl, rfl, by decide +kernel, rfl, by decide +kernel, by decide +kernel⟩
abbrev m__has_even_rows : MS := Sp.m__has_even_rows
theorem ok__has_even_rows {f : Addr} {fd : FuncData} (Fu : Fun K "_has_even_rows" "_has_even_rows" s__has_even_rows f fd) (T : Txt K mg t_FREE c_NoCell c_NoNumber c_NoPose c_NoTable c_TableError c_TooMany)  : FnOk P w K mg base (L2.CX P w) 1 f fd ["thing"] (spD K mg 1 2 m__has_even_rows) :=
  fnD Fu sc__has_even_rows fun cdv A outer s H E S0 io hr => (ss_cons (s_if (PW.pt (w_or (t_cmp o_isnt l_isnt (e_callTy c_typ l_typ (by rfl) T.no_type PyProof.Rows.boot_type (a_cons (e_var (pv 0)) a_nil)) (e_ty (v := .ty "list") (by rfl) T.no_list PyProof.Rows.boot_list rfl) (nomark _)) (w_or1 (t_cmp (op_eqD hr.units) l_eq (e_callB c_len l_len (by rfl) T.no_len PySem.boot_len (a_cons (e_var (pv 0)) a_nil)) e_int (nomark _))))) (ss_one (s_ret (ps_ret e_bl))) ss_nil)
  (ss_cons (s_for (passes_of rfl) rfl (lg_name (i := 1)) (i_items rfl (e_var (pv 0))) (pg_name (i := 1) sc__has_even_rows.nd rfl (by first | exact Or.inl rfl | exact Or.inr rfl)) (ss_one (s_if (PW.pt (w_or (t_cmp o_isnt l_isnt (e_callTy c_typ l_typ (by rfl) T.no_type PyProof.Rows.boot_type (a_cons (e_var (pv 1)) a_nil)) (e_ty (v := .ty "str") (by rfl) T.no_str PyProof.Rows.boot_str rfl) (nomark _)) (w_or (t_cmp (op_eqD hr.units) l_eq (e_callB c_len l_len (by rfl) T.no_len PySem.boot_len (a_cons (e_var (pv 1)) a_nil)) e_int (nomark _)) (w_or1 (t_cmp (op_neD hr.units) l_ne (e_callB c_len l_len (by rfl) T.no_len PySem.boot_len (a_cons (e_var (pv 1)) a_nil)) (e_callB c_len l_len (by rfl) T.no_len PySem.boot_len (a_cons (e_ix ix_seq l_ix (e_var (pv 0)) e_int) a_nil)) (nomark _)))))) (ss_one (s_ret (ps_ret e_bl))) ss_nil)))
  (ss_one (s_ret (ps_ret e_bl)))))
abbrev s__has_signs_only : Stmt := topS 14
abbrev sN__has_signs_only : List Str := ["row", "sign"]
theorem sc__has_signs_only : FnScope ["row", "sign"] ["row"] (defScope s__has_signs_only) := ⟨rfl, rfl, rfl, by decide +kernel, rfl, by decide +kernel, by decide +kernel⟩
abbrev m__has_signs_only : MS := Sp.m__has_signs_only
theorem ok__has_signs_only {f : Addr} {fd : FuncData} (Fu : Fun K "_has_signs_only" "_has_signs_only" s__has_signs_only f fd) (T : Txt K mg t_FREE c_NoCell c_NoNumber c_NoPose c_NoTable c_TableError c_TooMany)  : FnOk P w K mg base (L2.CX P w) 1 f fd ["row"] (spD K mg 1 2 m__has_signs_only) :=
  fnD Fu sc__has_signs_only fun cdv A outer s H E S0 io hr => (ss_one (s_ret (ps_ret (e_callB (cr_all rfl) l_all (by rfl) T.no_all PyProof.Rows.boot_all (a_cons (e_comp (own := [("sign", 1)]) rfl sc__has_signs_only.nd (blkOk_by (N := sN__has_signs_only) (sc := defScope s__has_signs_only) (by decide +kernel)) (lg_name (i := 1)) (by decide) (i_items rfl (e_var (pv 0))) (fun _ _ _ _ _ => (pg_name (i := 1) sc__has_signs_only.nd rfl (by first | exact Or.inl rfl | exact Or.inr rfl))) (fun _ _ _ _ _ => c_none) (fun _ _ _ _ _ => (e_chain o_le o_le l_le l_le e_str (e_var (pv 1)) e_str))) a_nil)))))
abbrev s_cells_of_signs : Stmt := topS 21
theorem sc_cells_of_signs : FnScope ["little", "told", "r", "row", "c", "sign"] ["little"] (defScope s_cells_of_signs) := ⟨rfl, rfl, rfl, by decide +kernel, rfl, by decide +kernel, by decide +kernel⟩
abbrev m_cells_of_signs : MS := Sp.m_cells_of_signs
theorem ok_cells_of_signs {f : Addr} {fd : FuncData} (Fu : Fun K "cells_of_signs" "cells_of_signs" s_cells_of_signs f fd) (T : Txt K mg t_FREE c_NoCell c_NoNumber c_NoPose c_NoTable c_TableError c_TooMany)  : FnOk P w K mg base (L2.CX P w) 1 f fd ["little"] (spD K mg 1 6 m_cells_of_signs) :=
  fnD Fu sc_cells_of_signs fun cdv A outer s H E S0 io hr => (ss_cons (s_setMu (i := 1) (ps_set (i := 1) sc_cells_of_signs.nd rfl (by first | exact Or.inl rfl | exact Or.inr rfl) (e_lst a_nil)))
  (ss_cons (s_for (passes_of rfl) rfl (lg_tup (lgs_cons (lg_name (i := 2)) (lgs_cons (lg_name (i := 3)) lgs_nil))) (i_enumX rfl (by rfl) T.no_enumerate (a_cons (e_var (pv 0)) a_nil)) (pg_tup rfl (pgs_cons (pg_name (i := 2) sc_cells_of_signs.nd rfl (by first | exact Or.inl rfl | exact Or.inr rfl)) (pgs_cons (pg_name (i := 3) sc_cells_of_signs.nd rfl (by first | exact Or.inl rfl | exact Or.inr rfl)) pgs_nil))) (ss_one (s_for (passes_of rfl) rfl (lg_tup (lgs_cons (lg_name (i := 4)) (lgs_cons (lg_name (i := 5)) lgs_nil))) (i_enumX rfl (by rfl) T.no_enumerate (a_cons (e_var (pv 3)) a_nil)) (pg_tup rfl (pgs_cons (pg_name (i := 4) sc_cells_of_signs.nd rfl (by first | exact Or.inl rfl | exact Or.inr rfl)) (pgs_cons (pg_name (i := 5) sc_cells_of_signs.nd rfl (by first | exact Or.inl rfl | exact Or.inr rfl)) pgs_nil))) (ss_one (s_if (t_cmp (op_neD hr.units) l_ne (e_var (pv 5)) (e_glob (v := .str "?") (by rfl) T.mg_FREE ⟨_, rfl⟩ (fun _ _ => .str _)) (nomark _)) (ss_one (s_expr (ps_expr (e_mut (i := 1) rfl l_app (pe_bm PySem.F.plainAttrs_list PySem.F.slot_list_append PySem.F.type_list_append mt_append (pv 1) (a_cons (e_tup (a_cons (e_var (pv 2)) (a_cons (e_var (pv 4)) (a_cons (e_var (pv 5)) a_nil)))) a_nil)))))) ss_nil)))))
  (ss_one (s_retMu (i := 1) (ps_ret (pv 1))))))
abbrev s_cells_to_lie_at : Stmt := topS 22
abbrev sN_cells_to_lie_at : List Str := ["great", "little", "rows", "columns", "i", "j"]
theorem sc_cells_to_lie_at : FnScope ["great", "little", "rows", "columns", "i", "j"] ["great", "little"] (defScope s_cells_to_lie_at) := ⟨rfl, rfl, rfl, by decide +kernel, rfl, by decide +kernel, by decide +kernel⟩
abbrev m_cells_to_lie_at : MS := Sp.m_cells_to_lie_at
theorem ok_cells_to_lie_at {f : Addr} {fd : FuncData} (Fu : Fun K "cells_to_lie_at" "cells_to_lie_at" s_cells_to_lie_at f fd) (T : Txt K mg t_FREE c_NoCell c_NoNumber c_NoPose c_NoTable c_TableError c_TooMany)  : FnOk P w K mg base (L2.CX P w) 1 f fd ["great", "little"] (spD K mg 2 6 m_cells_to_lie_at) :=
  fnD Fu sc_cells_to_lie_at fun cdv A outer s H E S0 io hr => (ss_cons (s_set (i := 2) (ps_set (i := 2) sc_cells_to_lie_at.nd rfl (by first | exact Or.inl rfl | exact Or.inr rfl) (e_op o_add l_add (e_op o_sub l_sub (e_callB c_len l_len (by rfl) T.no_len PySem.boot_len (a_cons (e_var (pv 0)) a_nil)) (e_callB c_len l_len (by rfl) T.no_len PySem.boot_len (a_cons (e_var (pv 1)) a_nil))) e_int)))
  (ss_cons (s_set (i := 3) (ps_set (i := 3) sc_cells_to_lie_at.nd rfl (by first | exact Or.inl rfl | exact Or.inr rfl) (e_op o_add l_add (e_op o_sub l_sub (e_callB c_len l_len (by rfl) T.no_len PySem.boot_len (a_cons (e_ix ix_seq l_ix (e_var (pv 0)) e_int) a_nil)) (e_callB c_len l_len (by rfl) T.no_len PySem.boot_len (a_cons (e_ix ix_seq l_ix (e_var (pv 1)) e_int) a_nil))) e_int)))
  (ss_one (s_ret (ps_ret (e_comp2 (own := [("i", 4), ("j", 5)]) (vs1 := [5]) rfl sc_cells_to_lie_at.nd (blkOk_by (N := sN_cells_to_lie_at) (sc := defScope s_cells_to_lie_at) (by decide +kernel)) (by decide) (lg_name (i := 4)) (by decide) (lg_name (i := 5)) (by decide) (i_range1 (by rfl) T.no_range (a_cons (e_var (pv 2)) a_nil)) (fun _ _ _ _ _ => (pg_name (i := 4) sc_cells_to_lie_at.nd rfl (by first | exact Or.inl rfl | exact Or.inr rfl))) (fun _ _ _ _ _ => (i_range1 (by rfl) T.no_range (a_cons (e_var (pv 3)) a_nil))) (fun _ _ _ _ _ => (pg_name (i := 5) sc_cells_to_lie_at.nd rfl (by first | exact Or.inl rfl | exact Or.inr rfl))) (fun _ _ _ _ _ => pts_nil) (fun _ _ _ _ _ => (e_tup (a_cons (e_var (pv 4)) (a_cons (e_var (pv 5)) a_nil))))))))))
abbrev s_lies_wholly : Stmt := topS 23
theorem sc_lies_wholly : FnScope ["great", "little", "cell", "i", "j"] ["great", "little", "cell"] (defScope s_lies_wholly) := ⟨rfl, rfl, rfl, by decide +kernel, rfl, by decide +kernel, by decide +kernel⟩
abbrev m_lies_wholly : MS := Sp.m__lies_wholly
theorem ok_lies_wholly {f : Addr} {fd : FuncData} (Fu : Fun K "lies_wholly" "lies_wholly" s_lies_wholly f fd) (T : Txt K mg t_FREE c_NoCell c_NoNumber c_NoPose c_NoTable c_TableError c_TooMany)  : FnOk P w K mg base (L2.CX P w) 1 f fd ["great", "little", "cell"] (spD K mg 3 5 m_lies_wholly) :=
  fnD Fu sc_lies_wholly fun cdv A outer s H E S0 io hr => (ss_cons (s_asg (lg_tup (lgs_cons (lg_name (i := 3)) (lgs_cons (lg_name (i := 4)) lgs_nil))) (ps_asg (e_var (pv 2)) (pg_tup rfl (pgs_cons (pg_name (i := 3) sc_lies_wholly.nd rfl (by first | exact Or.inl rfl | exact Or.inr rfl)) (pgs_cons (pg_name (i := 4) sc_lies_wholly.nd rfl (by first | exact Or.inl rfl | exact Or.inr rfl)) pgs_nil)))))
  (ss_cons (s_if (PW.pt (w_or (t_cmp o_lt l_lt (e_var (pv 3)) e_int (nomark _)) (w_or1 (t_cmp o_lt l_lt (e_var (pv 4)) e_int (nomark _))))) (ss_one (s_ret (ps_ret e_bl))) ss_nil)
  (ss_one (s_ret (ps_ret (e_and (e_cmp o_le l_le (e_op o_add l_add (e_var (pv 3)) (e_callB c_len l_len (by rfl) T.no_len PySem.boot_len (a_cons (e_var (pv 1)) a_nil))) (e_callB c_len l_len (by rfl) T.no_len PySem.boot_len (a_cons (e_var (pv 0)) a_nil)) (nomark _)) (e_one (e_cmp o_le l_le (e_op o_add l_add (e_var (pv 4)) (e_callB c_len l_len (by rfl) T.no_len PySem.boot_len (a_cons (e_ix ix_seq l_ix (e_var (pv 1)) e_int) a_nil))) (e_callB c_len l_len (by rfl) T.no_len PySem.boot_len (a_cons (e_ix ix_seq l_ix (e_var (pv 0)) e_int) a_nil)) (nomark _)))))))))
abbrev s__how_many_unlike : Stmt := topS 25
abbrev sN__how_many_unlike : List Str := ["great", "signs", "cell", "i", "j", "r", "c", "sign"]
theorem sc__how_many_unlike : FnScope ["great", "signs", "cell", "i", "j", "r", "c", "sign"] ["great", "signs", "cell"] (defScope s__how_many_unlike) := ⟨rfl, rfl, rfl, by decide +kernel, rfl, by decide +kernel, by decide +kernel⟩
def m__how_many_unlike : MS :=
  (sSeq (sAsg (gTupD 2 (gsCons (putIm 3) (gsCons (putIm 4) gsNil))) (mVar 2))
  (sRet (mB lenD (aCons (mComp (iItems (mVar 1)) (gTupD 3 (gsCons (putIm 5) (gsCons (putIm 6) (gsCons (putIm 7) gsNil)))) (some (mBool (mBin neD (mBin ixD (mBin ixD (mVar 0) (mBin addD (mVar 3) (mVar 5))) (mBin addD (mVar 4) (mVar 6))) (mVar 7)))) (mVar 7) [5, 6, 7]) aNil))))
theorem ok__how_many_unlike {f : Addr} {fd : FuncData} (Fu : Fun K "_how_many_unlike" "_how_many_unlike" s__how_many_unlike f fd) (T : Txt K mg t_FREE c_NoCell c_NoNumber c_NoPose c_NoTable c_TableError c_TooMany)  : FnOk P w K mg base (L2.CX P w) 1 f fd ["great", "signs", "cell"] (spD K mg 3 8 m__how_many_unlike) :=
  fnD Fu sc__how_many_unlike fun cdv A outer s H E S0 io hr => (ss_cons (s_asg (lg_tup (lgs_cons (lg_name (i := 3)) (lgs_cons (lg_name (i := 4)) lgs_nil))) (ps_asg (e_var (pv 2)) (pg_tup rfl (pgs_cons (pg_name (i := 3) sc__how_many_unlike.nd rfl (by first | exact Or.inl rfl | exact Or.inr rfl)) (pgs_cons (pg_name (i := 4) sc__how_many_unlike.nd rfl (by first | exact Or.inl rfl | exact Or.inr rfl)) pgs_nil)))))
  (ss_one (s_ret (ps_ret (e_callB c_len l_len (by rfl) T.no_len PySem.boot_len (a_cons (e_comp (own := [("r", 5), ("c", 6), ("sign", 7)]) rfl sc__how_many_unlike.nd (blkOk_by (N := sN__how_many_unlike) (sc := defScope s__how_many_unlike) (by decide +kernel)) (lg_tup (lgs_cons (lg_name (i := 5)) (lgs_cons (lg_name (i := 6)) (lgs_cons (lg_name (i := 7)) lgs_nil)))) (by decide) (i_items rfl (e_var (pv 1))) (fun _ _ _ _ _ => (pg_tup rfl (pgs_cons (pg_name (i := 5) sc__how_many_unlike.nd rfl (by first | exact Or.inl rfl | exact Or.inr rfl)) (pgs_cons (pg_name (i := 6) sc__how_many_unlike.nd rfl (by first | exact Or.inl rfl | exact Or.inr rfl)) (pgs_cons (pg_name (i := 7) sc__how_many_unlike.nd rfl (by first | exact Or.inl rfl | exact Or.inr rfl)) pgs_nil))))) (fun _ _ _ _ _ => (c_some (t_cmp (op_neD hr.units) l_ne (e_ix ix_seq l_ix (e_ix ix_seq l_ix (e_var (pv 0)) (e_op o_add l_add (e_var (pv 3)) (e_var (pv 5)))) (e_op o_add l_add (e_var (pv 4)) (e_var (pv 6)))) (e_var (pv 7)) (nomark _)))) (fun _ _ _ _ _ => (e_var (pv 7)))) a_nil))))))
abbrev s__law_pool : Stmt := topS 30
theorem sc__law_pool : FnScope ["script", "k", "cell"] ["script", "k"] (defScope s__law_pool) := ⟨rfl, rfl, rfl, by decide +kernel, rfl, by decide +kernel, by decide +kernel⟩
abbrev m__law_pool : MS := Sd.m__law_pool
theorem ok__law_pool {f : Addr} {fd : FuncData} (Fu : Fun K "_law_pool" "_law_pool" s__law_pool f fd) (T : Txt K mg t_FREE c_NoCell c_NoNumber c_NoPose c_NoTable c_TableError c_TooMany)  : FnOk P w K mg base (L2.CX P w) 1 f fd ["script", "k"] (spD K mg 2 3 m__law_pool) :=
  fnD Fu sc__law_pool fun cdv A outer s H E S0 io hr => (ss_cons (s_set (i := 2) (ps_set (i := 2) sc__law_pool.nd rfl (by first | exact Or.inl rfl | exact Or.inr rfl) e_int))
  (ss_cons (s_if (t_cmp o_lt l_lt (e_var (pv 1)) (e_callB c_len l_len (by rfl) T.no_len PySem.boot_len (a_cons (e_var (pv 0)) a_nil)) (nomark _)) (ss_one (s_set (i := 2) (ps_set (i := 2) sc__law_pool.nd rfl (by first | exact Or.inl rfl | exact Or.inr rfl) (e_ix ix_seq l_ix (e_var (pv 0)) (e_var (pv 1)))))) ss_nil)
  (ss_one (s_ret (ps_ret (e_lst (a_cons (e_var (pv 2)) (a_cons (e_callTy c_int l_int (by rfl) T.no_int PyProof.Rows.boot_int (a_cons (e_cmp o_ge l_ge (e_var (pv 2)) (e_op o_pow l_pow e_int e_int) (nomark _)) a_nil)) (a_cons (e_op o_mulX l_mulX e_int (e_var (pv 1))) a_nil)))))))))
abbrev s__law_draw : Stmt := topS 31
theorem sc__law_draw : FnScope ["pool", "many", "found", "x"] ["pool", "many"] (defScope s__law_draw) := ⟨rfl, rfl, rfl, by decide +kernel, rfl, by decide +kernel, by decide +kernel⟩
def m__law_draw : MS :=
  (sSeq (sIf (mBool (mBin eqD (mRd 0 ixD (mC (.int 1))) (mC (.int 1)))) (sSeq (sSet 2 (mBin modD (mRd 0 ixD (mC (.int 0))) (mVar 1)))
  (sSeq (sSetIx 0 setD (mC (.int 0)) (mBin fdivX (mRd 0 ixD (mC (.int 0))) (mVar 1)))
  (sRet (mVar 2)))) sNext)
  (sSeq (sSetIx 0 setD (mC (.int 2)) (mBin addD (mRd 0 ixD (mC (.int 2))) (mC (.int 1))))
  (sSeq (sSet 3 (mBin modD (mBin addD (mBin modD (mRd 0 ixD (mC (.int 0))) (mC (.int 999999999989))) (mBin mulX (mC (.int 620033)) (mRd 0 ixD (mC (.int 2))))) (mC (.int 999999999989))))
  (sSeq (sSet 3 (mBin modD (mBin mulX (mVar 3) (mVar 3)) (mC (.int 1000000000039))))
  (sSeq (sSet 3 (mBin modD (mBin mulX (mBin addD (mVar 3) (mC (.int 430019))) (mVar 3)) (mC (.int 999999999961))))
  (sRet (mBin modD (mBin fdivX (mVar 3) (mC (.int 7))) (mVar 1))))))))
theorem ok__law_draw {f : Addr} {fd : FuncData} (Fu : Fun K "_law_draw" "_law_draw" s__law_draw f fd) (T : Txt K mg t_FREE c_NoCell c_NoNumber c_NoPose c_NoTable c_TableError c_TooMany)  : FnOk P w K mg base (L2.CX P w) 1 f fd ["pool", "many"] (spD K mg 2 4 m__law_draw) :=
  fnD Fu sc__law_draw fun cdv A outer s H E S0 io hr => (ss_cons (s_if (t_cmp (op_eqD hr.units) l_eq (e_rdIx (i := 0) ix_seq l_ix (pv 0) e_int) e_int (nomark _)) (ss_cons (s_set (i := 2) (ps_set (i := 2) sc__law_draw.nd rfl (by first | exact Or.inl rfl | exact Or.inr rfl) (e_op o_mod l_mod (e_rdIx (i := 0) ix_seq l_ix (pv 0) e_int) (e_var (pv 1)))))
  (ss_cons (s_setIx (i := 0) l_set (ps_asg (e_op op_fdivW l_fdivX (e_rdIx (i := 0) ix_seq l_ix (pv 0) e_int) (e_var (pv 1))) (pg_sub (pv 0) e_int set_list)))
  (ss_one (s_ret (ps_ret (e_var (pv 2))))))) ss_nil)
  (ss_cons (s_setIx (i := 0) l_set (ps_asg (e_op o_add l_add (e_rdIx (i := 0) ix_seq l_ix (pv 0) e_int) e_int) (pg_sub (pv 0) e_int set_list)))
  (ss_cons (s_set (i := 3) (ps_set (i := 3) sc__law_draw.nd rfl (by first | exact Or.inl rfl | exact Or.inr rfl) (e_op o_mod l_mod (e_op o_add l_add (e_op o_mod l_mod (e_rdIx (i := 0) ix_seq l_ix (pv 0) e_int) e_int) (e_op o_mulX l_mulX e_int (e_rdIx (i := 0) ix_seq l_ix (pv 0) e_int))) e_int)))
  (ss_cons (s_set (i := 3) (ps_set (i := 3) sc__law_draw.nd rfl (by first | exact Or.inl rfl | exact Or.inr rfl) (e_op o_mod l_mod (e_op o_mulX l_mulX (e_var (pv 3)) (e_var (pv 3))) e_int)))
  (ss_cons (s_set (i := 3) (ps_set (i := 3) sc__law_draw.nd rfl (by first | exact Or.inl rfl | exact Or.inr rfl) (e_op o_mod l_mod (e_op o_mulX l_mulX (e_op o_add l_add (e_var (pv 3)) e_int) (e_var (pv 3))) e_int)))
  (ss_one (s_ret (ps_ret (e_op o_mod l_mod (e_op op_fdivW l_fdivX (e_var (pv 3)) e_int) (e_var (pv 1)))))))))))
abbrev s__law_numbers : Stmt := topS 36
theorem sc__law_numbers : FnScope ["great", "little", "found", "i", "j", "number", "r", "row", "c", "sign"] ["great", "little"] (defScope s__law_numbers) := ⟨rfl, rfl, rfl, by decide +kernel, rfl, by decide +kernel, by decide +kernel⟩
def m__law_numbers : MS :=
  (sSeq (sSetMu 2 (mLst aNil))
  (sSeq (sFor (iOf range1D (aCons (mBin addD (mBin subD (mB lenD (aCons (mVar 0) aNil)) (mB lenD (aCons (mVar 1) aNil))) (mC (.int 1))) aNil)) (putIm 3) (sFor (iOf range1D (aCons (mBin addD (mBin subD (mB lenD (aCons (mBin ixD (mVar 0) (mC (.int 0))) aNil)) (mB lenD (aCons (mBin ixD (mVar 1) (mC (.int 0))) aNil))) (mC (.int 1))) aNil)) (putIm 4) (sSeq (sSet 5 (mC (.int 0)))
  (sSeq (sFor (iOf enumX (aCons (mVar 1) aNil)) (gTupD 2 (gsCons (putIm 6) (gsCons (putIm 7) gsNil))) (sFor (iOf enumX (aCons (mVar 7) aNil)) (gTupD 2 (gsCons (putIm 8) (gsCons (putIm 9) gsNil))) (sSet 5 (mBin addD (mVar 5) (mB intD (aCons (mAndV (mBin neD (mVar 9) (mC (.str "?"))) (mBin neD (mVar 9) (mBin ixD (mBin ixD (mVar 0) (mBin addD (mVar 3) (mVar 6))) (mBin addD (mVar 4) (mVar 8))))) aNil))))))
  (sExpr (mMut 2 "list" appD (aCons (mTup (aCons (mTup (aCons (mVar 3) (aCons (mVar 4) aNil))) (aCons (mVar 5) aNil))) aNil)))))))
  (sRetMu 2)))
theorem ok__law_numbers {f : Addr} {fd : FuncData} (Fu : Fun K "_law_numbers" "_law_numbers" s__law_numbers f fd) (T : Txt K mg t_FREE c_NoCell c_NoNumber c_NoPose c_NoTable c_TableError c_TooMany)  : FnOk P w K mg base (L2.CX P w) 1 f fd ["great", "little"] (spD K mg 2 10 m__law_numbers) :=
  fnD Fu sc__law_numbers fun cdv A outer s H E S0 io hr => (ss_cons (s_setMu (i := 2) (ps_set (i := 2) sc__law_numbers.nd rfl (by first | exact Or.inl rfl | exact Or.inr rfl) (e_lst a_nil)))
  (ss_cons (s_for (passes_of rfl) rfl (lg_name (i := 3)) (i_range1 (by rfl) T.no_range (a_cons (e_op o_add l_add (e_op o_sub l_sub (e_callB c_len l_len (by rfl) T.no_len PySem.boot_len (a_cons (e_var (pv 0)) a_nil)) (e_callB c_len l_len (by rfl) T.no_len PySem.boot_len (a_cons (e_var (pv 1)) a_nil))) e_int) a_nil)) (pg_name (i := 3) sc__law_numbers.nd rfl (by first | exact Or.inl rfl | exact Or.inr rfl)) (ss_one (s_for (passes_of rfl) rfl (lg_name (i := 4)) (i_range1 (by rfl) T.no_range (a_cons (e_op o_add l_add (e_op o_sub l_sub (e_callB c_len l_len (by rfl) T.no_len PySem.boot_len (a_cons (e_ix ix_seq l_ix (e_var (pv 0)) e_int) a_nil)) (e_callB c_len l_len (by rfl) T.no_len PySem.boot_len (a_cons (e_ix ix_seq l_ix (e_var (pv 1)) e_int) a_nil))) e_int) a_nil)) (pg_name (i := 4) sc__law_numbers.nd rfl (by first | exact Or.inl rfl | exact Or.inr rfl)) (ss_cons (s_set (i := 5) (ps_set (i := 5) sc__law_numbers.nd rfl (by first | exact Or.inl rfl | exact Or.inr rfl) e_int))
  (ss_cons (s_for (passes_of rfl) rfl (lg_tup (lgs_cons (lg_name (i := 6)) (lgs_cons (lg_name (i := 7)) lgs_nil))) (i_enumX rfl (by rfl) T.no_enumerate (a_cons (e_var (pv 1)) a_nil)) (pg_tup rfl (pgs_cons (pg_name (i := 6) sc__law_numbers.nd rfl (by first | exact Or.inl rfl | exact Or.inr rfl)) (pgs_cons (pg_name (i := 7) sc__law_numbers.nd rfl (by first | exact Or.inl rfl | exact Or.inr rfl)) pgs_nil))) (ss_one (s_for (passes_of rfl) rfl (lg_tup (lgs_cons (lg_name (i := 8)) (lgs_cons (lg_name (i := 9)) lgs_nil))) (i_enumX rfl (by rfl) T.no_enumerate (a_cons (e_var (pv 7)) a_nil)) (pg_tup rfl (pgs_cons (pg_name (i := 8) sc__law_numbers.nd rfl (by first | exact Or.inl rfl | exact Or.inr rfl)) (pgs_cons (pg_name (i := 9) sc__law_numbers.nd rfl (by first | exact Or.inl rfl | exact Or.inr rfl)) pgs_nil))) (ss_one (s_set (i := 5) (ps_set (i := 5) sc__law_numbers.nd rfl (by first | exact Or.inl rfl | exact Or.inr rfl) (e_op o_add l_add (e_var (pv 5)) (e_callTy c_int l_int (by rfl) T.no_int PyProof.Rows.boot_int (a_cons (e_and (e_cmp (op_neD hr.units) l_ne (e_var (pv 9)) e_str (nomark _)) (e_one (e_cmp (op_neD hr.units) l_ne (e_var (pv 9)) (e_ix ix_seq l_ix (e_ix ix_seq l_ix (e_var (pv 0)) (e_op o_add l_add (e_var (pv 3)) (e_var (pv 6)))) (e_op o_add l_add (e_var (pv 4)) (e_var (pv 8)))) (nomark _)))) a_nil)))))))))
  (ss_one (s_expr (ps_expr (e_mut (i := 2) rfl l_app (pe_bm PySem.F.plainAttrs_list PySem.F.slot_list_append PySem.F.type_list_append mt_append (pv 2) (a_cons (e_tup (a_cons (e_tup (a_cons (e_var (pv 3)) (a_cons (e_var (pv 4)) a_nil))) (a_cons (e_var (pv 5)) a_nil))) a_nil)))))))))))
  (ss_one (s_retMu (i := 2) (ps_ret (pv 2))))))
abbrev s_is_count : Stmt := topS 2
theorem sc_is_count : FnScope ["thing"] ["thing"] (defScope s_is_count) := ⟨rfl, rfl, rfl, by decide +kernel, rfl, by decide +kernel, by decide +kernel⟩
abbrev m_is_count : MS := Sp.m_is_count
theorem ok_is_count {f : Addr} {fd : FuncData} (Fu : Fun K "is_count" "is_count" s_is_count f fd) (T : Txt K mg t_FREE c_NoCell c_NoNumber c_NoPose c_NoTable c_TableError c_TooMany) (k_is_whole : Kn P w K mg base "is_whole" 1 1 1 m_is_whole) : FnOk P w K mg base (L2.CX P w) 2 f fd ["thing"] (spD K mg 1 1 m_is_count) :=
  fnD Fu sc_is_count fun cdv A outer s H E S0 io hr => (ss_one (s_ret (ps_ret (e_and (e_callK k_is_whole (hr.mono (by decide)) (passes_call (takes_of rfl rfl rfl rfl) (fun _ _ _ _ h => h)) (an_cons an_nil) (a_cons (e_var (pv 0)) a_nil)) (e_one (e_cmp o_ge l_ge (e_var (pv 0)) e_int (nomark _)))))))
abbrev s_is_little : Stmt := topS 15
abbrev sN_is_little : List Str := ["thing", "row"]
theorem sc_is_little : FnScope ["thing", "row"] ["thing"] (defScope s_is_little) := ⟨rfl, rfl, rfl, by decide +kernel, rfl, by decide +kernel, by decide +kernel⟩
abbrev m_is_little : MS := Sp.m_is_little
theorem ok_is_little {f : Addr} {fd : FuncData} (Fu : Fun K "is_little" "is_little" s_is_little f fd) (T : Txt K mg t_FREE c_NoCell c_NoNumber c_NoPose c_NoTable c_TableError c_TooMany) (k__has_even_rows : Kn P w K mg base "_has_even_rows" 1 1 2 m__has_even_rows) (k__has_signs_only : Kn P w K mg base "_has_signs_only" 1 1 2 m__has_signs_only) : FnOk P w K mg base (L2.CX P w) 2 f fd ["thing"] (spD K mg 1 2 m_is_little) :=
  fnD Fu sc_is_little fun cdv A outer s H E S0 io hr => (ss_one (s_ret (ps_ret (e_and (e_callK k__has_even_rows (hr.mono (by decide)) (passes_call (takes_of rfl rfl rfl rfl) (fun _ _ _ _ h => h)) (an_cons an_nil) (a_cons (e_var (pv 0)) a_nil)) (e_one (e_callB (cr_all rfl) l_all (by rfl) T.no_all PyProof.Rows.boot_all (a_cons (e_comp (own := [("row", 1)]) rfl sc_is_little.nd (blkOk_by (N := sN_is_little) (sc := defScope s_is_little) (by decide +kernel)) (lg_name (i := 1)) (by decide) (i_items rfl (e_var (pv 0))) (fun _ _ _ _ _ => (pg_name (i := 1) sc_is_little.nd rfl (by first | exact Or.inl rfl | exact Or.inr rfl))) (fun _ _ _ _ _ => c_none) (fun _ _ _ _ _ => (e_callK k__has_signs_only (hr.mono (by decide)) passL (an_cons an_nil) (a_cons (e_var (pv 1)) a_nil)))) a_nil)))))))
abbrev s__law_signs : Stmt := topS 32
abbrev sN__law_signs : List Str := ["pool", "many", "signs", "at", "k"]
theorem sc__law_signs : FnScope ["pool", "many", "signs", "at", "k"] ["pool", "many"] (defScope s__law_signs) := ⟨rfl, rfl, rfl, by decide +kernel, rfl, by decide +kernel, by decide +kernel⟩
def m__law_signs : MS :=
  (sSeq (sSet 2 (mC (.str "!\"#$&'()*+,-./0123456789:;<=>@ABCDEFGHIJKLMNOPQRSTUVWXYZ")))
  (sSeq (sSet 2 (mBin addD (mVar 2) (mC (.str "[\\]^_`abcdefghijklmnopqrstuvwxyz{|}~"))))
  (sSeq (sSet 3 (mCallIo 0 m__law_draw 4 (aCons (mB lenD (aCons (mVar 2) aNil)) aNil)))
  (sRet (mComp (iOf range1D (aCons (mVar 1) aNil)) (putIm 4) none (mBin ixD (mVar 2) (mBin modD (mBin addD (mVar 3) (mVar 4)) (mB lenD (aCons (mVar 2) aNil)))) [4])))))
theorem ok__law_signs {f : Addr} {fd : FuncData} (Fu : Fun K "_law_signs" "_law_signs" s__law_signs f fd) (T : Txt K mg t_FREE c_NoCell c_NoNumber c_NoPose c_NoTable c_TableError c_TooMany) (k__law_draw : Kn P w K mg base "_law_draw" 1 2 4 m__law_draw) : FnOk P w K mg base (L2.CX P w) 2 f fd ["pool", "many"] (spD K mg 2 5 m__law_signs) :=
  fnD Fu sc__law_signs fun cdv A outer s H E S0 io hr => (ss_cons (s_set (i := 2) (ps_set (i := 2) sc__law_signs.nd rfl (by first | exact Or.inl rfl | exact Or.inr rfl) e_str))
  (ss_cons (s_set (i := 2) (ps_set (i := 2) sc__law_signs.nd rfl (by first | exact Or.inl rfl | exact Or.inr rfl) (e_op o_add l_add (e_var (pv 2)) e_str)))
  (ss_cons (s_set (i := 3) (ps_set (i := 3) sc__law_signs.nd rfl (by first | exact Or.inl rfl | exact Or.inr rfl) (e_callKio k__law_draw (hr.mono (by decide)) (passes_call (takes_of rfl rfl rfl rfl) (fun _ _ _ _ h => h)) (fun ds g g' h => congrArg Nat.succ ((an_cons an_nil) ds g g' h)) (pv 0) (a_cons (e_callB c_len l_len (by rfl) T.no_len PySem.boot_len (a_cons (e_var (pv 2)) a_nil)) a_nil))))
  (ss_one (s_ret (ps_ret (e_comp (own := [("k", 4)]) rfl sc__law_signs.nd (blkOk_by (N := sN__law_signs) (sc := defScope s__law_signs) (by decide +kernel)) (lg_name (i := 4)) (by decide) (i_range1 (by rfl) T.no_range (a_cons (e_var (pv 1)) a_nil)) (fun _ _ _ _ _ => (pg_name (i := 4) sc__law_signs.nd rfl (by first | exact Or.inl rfl | exact Or.inr rfl))) (fun _ _ _ _ _ => c_none) (fun _ _ _ _ _ => (e_ix ix_seq l_ix (e_var (pv 2)) (e_op o_mod l_mod (e_op o_add l_add (e_var (pv 3)) (e_var (pv 4))) (e_callB c_len l_len (by rfl) T.no_len PySem.boot_len (a_cons (e_var (pv 2)) a_nil))))))))))))
abbrev s__law_row : Stmt := topS 33
abbrev sN__law_row : List Str := ["pool", "signs", "columns", "j"]
theorem sc__law_row : FnScope ["pool", "signs", "columns", "j"] ["pool", "signs", "columns"] (defScope s__law_row) := ⟨rfl, rfl, rfl, by decide +kernel, rfl, by decide +kernel, by decide +kernel⟩
def m__law_row : MS :=
  (sRet (mComp (iOf range1D (aCons (mVar 2) aNil)) (putIm 3) none (mBin ixD (mVar 1) (mCallIo 0 m__law_draw 4 (aCons (mB lenD (aCons (mVar 1) aNil)) aNil))) [3]))
theorem ok__law_row {f : Addr} {fd : FuncData} (Fu : Fun K "_law_row" "_law_row" s__law_row f fd) (T : Txt K mg t_FREE c_NoCell c_NoNumber c_NoPose c_NoTable c_TableError c_TooMany) (k__law_draw : Kn P w K mg base "_law_draw" 1 2 4 m__law_draw) : FnOk P w K mg base (L2.CX P w) 2 f fd ["pool", "signs", "columns"] (spD K mg 3 4 m__law_row) :=
  fnD Fu sc__law_row fun cdv A outer s H E S0 io hr => (ss_one (s_ret (ps_ret (e_comp (own := [("j", 3)]) rfl sc__law_row.nd (blkOk_by (N := sN__law_row) (sc := defScope s__law_row) (by decide +kernel)) (lg_name (i := 3)) (by decide) (i_range1 (by rfl) T.no_range (a_cons (e_var (pv 2)) a_nil)) (fun _ _ _ _ _ => (pg_name (i := 3) sc__law_row.nd rfl (by first | exact Or.inl rfl | exact Or.inr rfl))) (fun _ _ _ _ _ => c_none) (fun _ _ _ _ _ => (e_ix ix_seq l_ix (e_var (pv 1)) (e_callKio k__law_draw (hr.mono (by decide)) passL (fun ds g g' h => congrArg Nat.succ ((an_cons an_nil) ds g g' h)) (pv 0) (a_cons (e_callB c_len l_len (by rfl) T.no_len PySem.boot_len (a_cons (e_var (pv 1)) a_nil)) a_nil))))))))
abbrev s__law_some : Stmt := topS 40
theorem sc__law_some : FnScope ["pool", "numbers", "far", "found", "turn"] ["pool", "numbers", "far"] (defScope s__law_some) := ⟨rfl, rfl, rfl, by decide +kernel, rfl, by decide +kernel, by decide +kernel⟩
def m__law_some : MS :=
  (sSeq (sIf (mOrT (mBool (mBin eqD (mVar 2) (mC (.int 0)))) (mBool (mBin eqD (mVar 1) (mLst aNil)))) (sRet (mVar 1)) sNext)
  (sSeq (sSetMu 3 (mLst (aCons (mBin ixD (mVar 1) (mC (.int 0))) (aCons (mBin ixD (mVar 1) (mUn negD (mC (.int 1)))) aNil))))
  (sSeq (sFor (iOf range1D (aCons (mC (.int 4)) aNil)) (putIm 4) (sExpr (mMut 3 "list" appD (aCons (mBin ixD (mVar 1) (mCallIo 0 m__law_draw 4 (aCons (mB lenD (aCons (mVar 1) aNil)) aNil))) aNil))))
  (sRetMu 3))))
theorem ok__law_some {f : Addr} {fd : FuncData} (Fu : Fun K "_law_some" "_law_some" s__law_some f fd) (T : Txt K mg t_FREE c_NoCell c_NoNumber c_NoPose c_NoTable c_TableError c_TooMany) (k__law_draw : Kn P w K mg base "_law_draw" 1 2 4 m__law_draw) : FnOk P w K mg base (L2.CX P w) 2 f fd ["pool", "numbers", "far"] (spD K mg 3 5 m__law_some) :=
  fnD Fu sc__law_some fun cdv A outer s H E S0 io hr => (ss_cons (s_if (PW.pt (w_or (t_cmp (op_eqD hr.units) l_eq (e_var (pv 2)) e_int (nomark _)) (w_or1 (t_cmp (op_eqD hr.units) l_eq (e_var (pv 1)) (e_lst a_nil) (nomark _))))) (ss_one (s_ret (ps_ret (e_var (pv 1))))) ss_nil)
  (ss_cons (s_setMu (i := 3) (ps_set (i := 3) sc__law_some.nd rfl (by first | exact Or.inl rfl | exact Or.inr rfl) (e_lst (a_cons (e_ix ix_seq l_ix (e_var (pv 1)) e_int) (a_cons (e_ix ix_seq l_ix (e_var (pv 1)) (e_un o_neg l_neg e_int)) a_nil)))))
  (ss_cons (s_for (passes_of rfl) rfl (lg_name (i := 4)) (i_range1 (by rfl) T.no_range (a_cons e_int a_nil)) (pg_name (i := 4) sc__law_some.nd rfl (by first | exact Or.inl rfl | exact Or.inr rfl)) (ss_one (s_expr (ps_expr (e_mut (i := 3) rfl l_app (pe_bm PySem.F.plainAttrs_list PySem.F.slot_list_append PySem.F.type_list_append mt_append (pv 3) (a_cons (e_ix ix_seq l_ix (e_var (pv 1)) (e_callKio k__law_draw (hr.mono (by decide)) (passes_call (takes_of rfl rfl rfl rfl) (fun _ _ _ _ h => h)) (fun ds g g' h => congrArg Nat.succ ((an_cons an_nil) ds g g' h)) (pv 0) (a_cons (e_callB c_len l_len (by rfl) T.no_len PySem.boot_len (a_cons (e_var (pv 1)) a_nil)) a_nil))) a_nil)))))))
  (ss_one (s_retMu (i := 3) (ps_ret (pv 3)))))))
abbrev s_is_cell : Stmt := topS 3
theorem sc_is_cell : FnScope ["thing"] ["thing"] (defScope s_is_cell) := ⟨rfl, rfl, rfl, by decide +kernel, rfl, by decide +kernel, by decide +kernel⟩
abbrev m_is_cell : MS := Sp.m_is_cell
theorem ok_is_cell {f : Addr} {fd : FuncData} (Fu : Fun K "is_cell" "is_cell" s_is_cell f fd) (T : Txt K mg t_FREE c_NoCell c_NoNumber c_NoPose c_NoTable c_TableError c_TooMany) (k_is_count : Kn P w K mg base "is_count" 2 1 1 m_is_count) : FnOk P w K mg base (L2.CX P w) 3 f fd ["thing"] (spD K mg 1 1 m_is_cell) :=
  fnD Fu sc_is_cell fun cdv A outer s H E S0 io hr => (ss_cons (s_if (PW.pt (w_or (t_cmp o_isnt l_isnt (e_callTy c_typ l_typ (by rfl) T.no_type PyProof.Rows.boot_type (a_cons (e_var (pv 0)) a_nil)) (e_ty (v := .ty "tuple") (by rfl) T.no_tuple PyProof.Rows.boot_tuple rfl) (nomark _)) (w_or1 (t_cmp (op_neD hr.units) l_ne (e_callB c_len l_len (by rfl) T.no_len PySem.boot_len (a_cons (e_var (pv 0)) a_nil)) e_int (nomark _))))) (ss_one (s_ret (ps_ret e_bl))) ss_nil)
  (ss_one (s_ret (ps_ret (e_and (e_callK k_is_count (hr.mono (by decide)) (passes_call (takes_of rfl rfl rfl rfl) (fun _ _ _ _ h => h)) (an_cons an_nil) (a_cons (e_ix ix_seq l_ix (e_var (pv 0)) e_int) a_nil)) (e_one (e_callK k_is_count (hr.mono (by decide)) (passes_call (takes_of rfl rfl rfl rfl) (fun _ _ _ _ h => h)) (an_cons an_nil) (a_cons (e_ix ix_seq l_ix (e_var (pv 0)) e_int) a_nil))))))))
abbrev s_is_table : Stmt := topS 16
abbrev sN_is_table : List Str := ["thing", "row"]
theorem sc_is_table : FnScope ["thing", "row"] ["thing"] (defScope s_is_table) := ⟨rfl, rfl, rfl, by decide +kernel, rfl, by decide +kernel, by decide +kernel⟩
abbrev m_is_table : MS := Sp.m_is_table
theorem ok_is_table {f : Addr} {fd : FuncData} (Fu : Fun K "is_table" "is_table" s_is_table f fd) (T : Txt K mg t_FREE c_NoCell c_NoNumber c_NoPose c_NoTable c_TableError c_TooMany) (k_is_little : Kn P w K mg base "is_little" 2 1 2 m_is_little) : FnOk P w K mg base (L2.CX P w) 3 f fd ["thing"] (spD K mg 1 2 m_is_table) :=
  fnD Fu sc_is_table fun cdv A outer s H E S0 io hr => (ss_one (s_ret (ps_ret (e_and (e_callK k_is_little (hr.mono (by decide)) (passes_call (takes_of rfl rfl rfl rfl) (fun _ _ _ _ h => h)) (an_cons an_nil) (a_cons (e_var (pv 0)) a_nil)) (e_one (e_callB (cr_all rfl) l_all (by rfl) T.no_all PyProof.Rows.boot_all (a_cons (e_comp (own := [("row", 1)]) rfl sc_is_table.nd (blkOk_by (N := sN_is_table) (sc := defScope s_is_table) (by decide +kernel)) (lg_name (i := 1)) (by decide) (i_items rfl (e_var (pv 0))) (fun _ _ _ _ _ => (pg_name (i := 1) sc_is_table.nd rfl (by first | exact Or.inl rfl | exact Or.inr rfl))) (fun _ _ _ _ _ => c_none) (fun _ _ _ _ _ => (e_cmp (o_ninY hr) l_ninY (e_glob (v := .str "?") (by rfl) T.mg_FREE ⟨_, rfl⟩ (fun _ _ => .str _)) (e_var (pv 1))))) a_nil)))))))
abbrev s_check_little : Stmt := topS 18
theorem sc_check_little : FnScope ["thing"] ["thing"] (defScope s_check_little) := ⟨rfl, rfl, rfl, by decide +kernel, rfl, by decide +kernel, by decide +kernel⟩
abbrev m_check_little : MS := Sp.m_check_little
theorem ok_check_little {f : Addr} {fd : FuncData} (Fu : Fun K "check_little" "check_little" s_check_little f fd) (T : Txt K mg t_FREE c_NoCell c_NoNumber c_NoPose c_NoTable c_TableError c_TooMany) (k_is_little : Kn P w K mg base "is_little" 2 1 2 m_is_little) : FnOk P w K mg base (L2.CX P w) 3 f fd ["thing"] (spD K mg 1 1 m_check_little) :=
  fnD Fu sc_check_little fun cdv A outer s H E S0 io hr => (ss_one (s_if (t_not (t_truth (e_callK k_is_little (hr.mono (by decide)) (passes_call (takes_of rfl rfl rfl rfl) (fun _ _ _ _ h => h)) (an_cons an_nil) (a_cons (e_var (pv 0)) a_nil)))) (ss_one (s_raise T.mg_NoTable (ps_raise rfl (takes_of rfl rfl rfl rfl) (pmk_own PySem.F.excBase_ValueError T.xe_NoTable T.mg_NoTable T.ke_NoTable (raises_own T.be_NoTable T.te_NoTable) (by rfl))))) ss_nil))
abbrev s__law_great : Stmt := topS 34
abbrev sN__law_great : List Str := ["pool", "rows", "columns", "signs", "high", "wide", "tile", "i", "found", "j"]
theorem sc__law_great : FnScope ["pool", "rows", "columns", "signs", "high", "wide", "tile", "i", "found", "j"] ["pool", "rows", "columns"] (defScope s__law_great) := ⟨rfl, rfl, rfl, by decide +kernel, rfl, by decide +kernel, by decide +kernel⟩
def m__law_great : MS :=
  (sSeq (sSet 3 (mCallIo 0 m__law_signs 5 (aCons (mBin ixD (mLst (aCons (mC (.int 2)) (aCons (mC (.int 1)) (aCons (mC (.int 2)) (aCons (mC (.int 3)) (aCons (mC (.int 5)) (aCons (mC (.int 92)) aNil))))))) (mCallIo 0 m__law_draw 4 (aCons (mC (.int 6)) aNil))) aNil)))
  (sSeq (sIf (mBool (mBin eqD (mCallIo 0 m__law_draw 4 (aCons (mC (.int 3)) aNil)) (mC (.int 0)))) (sSeq (sSet 4 (mBin addD (mC (.int 1)) (mCallIo 0 m__law_draw 4 (aCons (mB min2D (aCons (mVar 1) (aCons (mC (.int 4)) aNil))) aNil))))
  (sSeq (sSet 5 (mBin addD (mC (.int 1)) (mCallIo 0 m__law_draw 4 (aCons (mB min2D (aCons (mVar 2) (aCons (mC (.int 4)) aNil))) aNil))))
  (sSeq (sSet 6 (mComp (iOf range1D (aCons (mVar 4) aNil)) (putIm 7) none (mCallIo 0 m__law_row 4 (aCons (mVar 3) (aCons (mVar 5) aNil))) [7]))
  (sSeq (sSetMu 8 (mLst aNil))
  (sSeq (sFor (iOf range1D (aCons (mVar 1) aNil)) (putIm 7) (sExpr (mMut 8 "list" appD (aCons (mM "str" joinD (mC (.str "")) (aCons (mComp (iOf range1D (aCons (mVar 2) aNil)) (putIm 9) none (mBin ixD (mBin ixD (mVar 6) (mBin modD (mVar 7) (mVar 4))) (mBin modD (mVar 9) (mVar 5))) [9]) aNil)) aNil))))
  (sRetMu 8)))))) sNext)
  (sRet (mComp (iOf range1D (aCons (mVar 1) aNil)) (putIm 7) none (mM "str" joinD (mC (.str "")) (aCons (mCallIo 0 m__law_row 4 (aCons (mVar 3) (aCons (mVar 2) aNil))) aNil)) [7]))))
theorem ok__law_great {f : Addr} {fd : FuncData} (Fu : Fun K "_law_great" "_law_great" s__law_great f fd) (T : Txt K mg t_FREE c_NoCell c_NoNumber c_NoPose c_NoTable c_TableError c_TooMany) (k__law_draw : Kn P w K mg base "_law_draw" 1 2 4 m__law_draw) (k__law_row : Kn P w K mg base "_law_row" 2 3 4 m__law_row) (k__law_signs : Kn P w K mg base "_law_signs" 2 2 5 m__law_signs) : FnOk P w K mg base (L2.CX P w) 3 f fd ["pool", "rows", "columns"] (spD K mg 3 10 m__law_great) :=
  fnD Fu sc__law_great fun cdv A outer s H E S0 io hr => (ss_cons (s_set (i := 3) (ps_set (i := 3) sc__law_great.nd rfl (by first | exact Or.inl rfl | exact Or.inr rfl) (e_callKio k__law_signs (hr.mono (by decide)) (passes_call (takes_of rfl rfl rfl rfl) (fun _ _ _ _ h => h)) (fun ds g g' h => congrArg Nat.succ ((an_cons an_nil) ds g g' h)) (pv 0) (a_cons (e_ix ix_seq l_ix (e_lst (a_cons e_int (a_cons e_int (a_cons e_int (a_cons e_int (a_cons e_int (a_cons e_int a_nil))))))) (e_callKio k__law_draw (hr.mono (by decide)) (passes_call (takes_of rfl rfl rfl rfl) (fun _ _ _ _ h => h)) (fun ds g g' h => congrArg Nat.succ ((an_cons an_nil) ds g g' h)) (pv 0) (a_cons e_int a_nil))) a_nil))))
  (ss_cons (s_if (t_cmp (op_eqD hr.units) l_eq (e_callKio k__law_draw (hr.mono (by decide)) (passes_call (takes_of rfl rfl rfl rfl) (fun _ _ _ _ h => h)) (fun ds g g' h => congrArg Nat.succ ((an_cons an_nil) ds g g' h)) (pv 0) (a_cons e_int a_nil)) e_int (nomark _)) (ss_cons (s_set (i := 4) (ps_set (i := 4) sc__law_great.nd rfl (by first | exact Or.inl rfl | exact Or.inr rfl) (e_op o_add l_add e_int (e_callKio k__law_draw (hr.mono (by decide)) (passes_call (takes_of rfl rfl rfl rfl) (fun _ _ _ _ h => h)) (fun ds g g' h => congrArg Nat.succ ((an_cons an_nil) ds g g' h)) (pv 0) (a_cons (e_callB (call_min2 rfl) l_min2 (by rfl) T.no_min PyProof.Rows.boot_min (a_cons (e_var (pv 1)) (a_cons e_int a_nil))) a_nil)))))
  (ss_cons (s_set (i := 5) (ps_set (i := 5) sc__law_great.nd rfl (by first | exact Or.inl rfl | exact Or.inr rfl) (e_op o_add l_add e_int (e_callKio k__law_draw (hr.mono (by decide)) (passes_call (takes_of rfl rfl rfl rfl) (fun _ _ _ _ h => h)) (fun ds g g' h => congrArg Nat.succ ((an_cons an_nil) ds g g' h)) (pv 0) (a_cons (e_callB (call_min2 rfl) l_min2 (by rfl) T.no_min PyProof.Rows.boot_min (a_cons (e_var (pv 2)) (a_cons e_int a_nil))) a_nil)))))
  (ss_cons (s_set (i := 6) (ps_set (i := 6) sc__law_great.nd rfl (by first | exact Or.inl rfl | exact Or.inr rfl) (e_comp (own := [("i", 7)]) rfl sc__law_great.nd (blkOk_by (N := sN__law_great) (sc := defScope s__law_great) (by decide +kernel)) (lg_name (i := 7)) (by decide) (i_range1 (by rfl) T.no_range (a_cons (e_var (pv 4)) a_nil)) (fun _ _ _ _ _ => (pg_name (i := 7) sc__law_great.nd rfl (by first | exact Or.inl rfl | exact Or.inr rfl))) (fun _ _ _ _ _ => c_none) (fun _ _ _ _ _ => (e_callKio k__law_row (hr.mono (by decide)) passL (fun ds g g' h => congrArg Nat.succ ((an_cons (an_cons an_nil)) ds g g' h)) (pv 0) (a_cons (e_var (pv 3)) (a_cons (e_var (pv 5)) a_nil)))))))
  (ss_cons (s_setMu (i := 8) (ps_set (i := 8) sc__law_great.nd rfl (by first | exact Or.inl rfl | exact Or.inr rfl) (e_lst a_nil)))
  (ss_cons (s_for (passes_of rfl) rfl (lg_name (i := 7)) (i_range1 (by rfl) T.no_range (a_cons (e_var (pv 1)) a_nil)) (pg_name (i := 7) sc__law_great.nd rfl (by first | exact Or.inl rfl | exact Or.inr rfl)) (ss_one (s_expr (ps_expr (e_mut (i := 8) rfl l_app (pe_bm PySem.F.plainAttrs_list PySem.F.slot_list_append PySem.F.type_list_append mt_append (pv 8) (a_cons (e_m rfl l_join (pe_bm PySem.F.plainAttrs_str PySem.F.slot_str_join PySem.F.type_str_join mt_join e_str (a_cons (e_comp (own := [("j", 9)]) rfl sc__law_great.nd (blkOk_by (N := sN__law_great) (sc := defScope s__law_great) (by decide +kernel)) (lg_name (i := 9)) (by decide) (i_range1 (by rfl) T.no_range (a_cons (e_var (pv 2)) a_nil)) (fun _ _ _ _ _ => (pg_name (i := 9) sc__law_great.nd rfl (by first | exact Or.inl rfl | exact Or.inr rfl))) (fun _ _ _ _ _ => c_none) (fun _ _ _ _ _ => (e_ix ix_seq l_ix (e_ix ix_seq l_ix (e_var (pv 6)) (e_op o_mod l_mod (e_var (pv 7)) (e_var (pv 4)))) (e_op o_mod l_mod (e_var (pv 9)) (e_var (pv 5)))))) a_nil))) a_nil)))))))
  (ss_one (s_retMu (i := 8) (ps_ret (pv 8))))))))) ss_nil)
  (ss_one (s_ret (ps_ret (e_comp (own := [("i", 7)]) rfl sc__law_great.nd (blkOk_by (N := sN__law_great) (sc := defScope s__law_great) (by decide +kernel)) (lg_name (i := 7)) (by decide) (i_range1 (by rfl) T.no_range (a_cons (e_var (pv 1)) a_nil)) (fun _ _ _ _ _ => (pg_name (i := 7) sc__law_great.nd rfl (by first | exact Or.inl rfl | exact Or.inr rfl))) (fun _ _ _ _ _ => c_none) (fun _ _ _ _ _ => (e_m rfl l_join (pe_bm PySem.F.plainAttrs_str PySem.F.slot_str_join PySem.F.type_str_join mt_join e_str (a_cons (e_callKio k__law_row (hr.mono (by decide)) passL (fun ds g g' h => congrArg Nat.succ ((an_cons (an_cons an_nil)) ds g g' h)) (pv 0) (a_cons (e_var (pv 3)) (a_cons (e_var (pv 2)) a_nil))) a_nil))))))))))
abbrev s__law_little : Stmt := topS 35
abbrev sN__law_little : List Str := ["pool", "great", "rows", "columns", "at", "along", "free", "found", "i", "signs", "row", "j", "sign"]
theorem sc__law_little : FnScope ["pool", "great", "rows", "columns", "at", "along", "free", "found", "i", "signs", "row", "j", "sign"] ["pool", "great", "rows", "columns"] (defScope s__law_little) := ⟨rfl, rfl, rfl, by decide +kernel, rfl, by decide +kernel, by decide +kernel⟩
def m__law_little : MS :=
  (sSeq (sSet 4 (mCallIo 0 m__law_draw 4 (aCons (mB lenD (aCons (mVar 1) aNil)) aNil)))
  (sSeq (sSet 5 (mCallIo 0 m__law_draw 4 (aCons (mB lenD (aCons (mBin ixD (mVar 1) (mC (.int 0))) aNil)) aNil)))
  (sSeq (sSet 6 (mBin ixD (mLst (aCons (mC (.int 0)) (aCons (mC (.int 0)) (aCons (mC (.int 2)) (aCons (mC (.int 4)) (aCons (mC (.int 1)) aNil)))))) (mCallIo 0 m__law_draw 4 (aCons (mC (.int 5)) aNil))))
  (sSeq (sSetMu 7 (mLst aNil))
  (sSeq (sFor (iOf range1D (aCons (mVar 2) aNil)) (putIm 8) (sSeq (sSet 9 (mBin ixD (mVar 1) (mBin modD (mBin addD (mVar 4) (mVar 8)) (mB lenD (aCons (mVar 1) aNil)))))
  (sSeq (sSet 10 (mComp (iOf range1D (aCons (mVar 3) aNil)) (putIm 11) none (mBin ixD (mVar 9) (mBin modD (mBin addD (mVar 5) (mVar 11)) (mB lenD (aCons (mVar 9) aNil)))) [11]))
  (sSeq (sIf (mBool (mBin gtD (mVar 6) (mC (.int 0)))) (sSet 10 (mComp (iItems (mVar 10)) (putIm 12) none (mBin ixD (mLst (aCons (mVar 12) (aCons (mC (.str "?")) aNil))) (mB intD (aCons (mBin eqD (mCallIo 0 m__law_draw 4 (aCons (mVar 6) aNil)) (mC (.int 0))) aNil))) [12])) sNext)
  (sExpr (mMut 7 "list" appD (aCons (mM "str" joinD (mC (.str "")) (aCons (mVar 10) aNil)) aNil)))))))
  (sSeq (sIf (mBool (mBin eqD (mCallIo 0 m__law_draw 4 (aCons (mC (.int 3)) aNil)) (mC (.int 0)))) (sSeq (sSet 8 (mCallIo 0 m__law_draw 4 (aCons (mVar 2) aNil)))
  (sSeq (sSet 11 (mCallIo 0 m__law_draw 4 (aCons (mVar 3) aNil)))
  (sSeq (sSet 12 (mBin ixD (mCallIo 0 m__law_signs 5 (aCons (mC (.int 1)) aNil)) (mC (.int 0))))
  (sSetIx 7 setD (mVar 8) (mBin addD (mBin addD (mSl slD (mRd 7 ixD (mVar 8)) none (some (mVar 11))) (mVar 12)) (mSl slD (mRd 7 ixD (mVar 8)) (some (mBin addD (mVar 11) (mC (.int 1)))) none)))))) sNext)
  (sRetMu 7)))))))
theorem ok__law_little {f : Addr} {fd : FuncData} (Fu : Fun K "_law_little" "_law_little" s__law_little f fd) (T : Txt K mg t_FREE c_NoCell c_NoNumber c_NoPose c_NoTable c_TableError c_TooMany) (k__law_draw : Kn P w K mg base "_law_draw" 1 2 4 m__law_draw) (k__law_signs : Kn P w K mg base "_law_signs" 2 2 5 m__law_signs) : FnOk P w K mg base (L2.CX P w) 3 f fd ["pool", "great", "rows", "columns"] (spD K mg 4 13 m__law_little) :=
  fnD Fu sc__law_little fun cdv A outer s H E S0 io hr => (ss_cons (s_set (i := 4) (ps_set (i := 4) sc__law_little.nd rfl (by first | exact Or.inl rfl | exact Or.inr rfl) (e_callKio k__law_draw (hr.mono (by decide)) (passes_call (takes_of rfl rfl rfl rfl) (fun _ _ _ _ h => h)) (fun ds g g' h => congrArg Nat.succ ((an_cons an_nil) ds g g' h)) (pv 0) (a_cons (e_callB c_len l_len (by rfl) T.no_len PySem.boot_len (a_cons (e_var (pv 1)) a_nil)) a_nil))))
  (ss_cons (s_set (i := 5) (ps_set (i := 5) sc__law_little.nd rfl (by first | exact Or.inl rfl | exact Or.inr rfl) (e_callKio k__law_draw (hr.mono (by decide)) (passes_call (takes_of rfl rfl rfl rfl) (fun _ _ _ _ h => h)) (fun ds g g' h => congrArg Nat.succ ((an_cons an_nil) ds g g' h)) (pv 0) (a_cons (e_callB c_len l_len (by rfl) T.no_len PySem.boot_len (a_cons (e_ix ix_seq l_ix (e_var (pv 1)) e_int) a_nil)) a_nil))))
  (ss_cons (s_set (i := 6) (ps_set (i := 6) sc__law_little.nd rfl (by first | exact Or.inl rfl | exact Or.inr rfl) (e_ix ix_seq l_ix (e_lst (a_cons e_int (a_cons e_int (a_cons e_int (a_cons e_int (a_cons e_int a_nil)))))) (e_callKio k__law_draw (hr.mono (by decide)) (passes_call (takes_of rfl rfl rfl rfl) (fun _ _ _ _ h => h)) (fun ds g g' h => congrArg Nat.succ ((an_cons an_nil) ds g g' h)) (pv 0) (a_cons e_int a_nil)))))
  (ss_cons (s_setMu (i := 7) (ps_set (i := 7) sc__law_little.nd rfl (by first | exact Or.inl rfl | exact Or.inr rfl) (e_lst a_nil)))
  (ss_cons (s_for (passes_of rfl) rfl (lg_name (i := 8)) (i_range1 (by rfl) T.no_range (a_cons (e_var (pv 2)) a_nil)) (pg_name (i := 8) sc__law_little.nd rfl (by first | exact Or.inl rfl | exact Or.inr rfl)) (ss_cons (s_set (i := 9) (ps_set (i := 9) sc__law_little.nd rfl (by first | exact Or.inl rfl | exact Or.inr rfl) (e_ix ix_seq l_ix (e_var (pv 1)) (e_op o_mod l_mod (e_op o_add l_add (e_var (pv 4)) (e_var (pv 8))) (e_callB c_len l_len (by rfl) T.no_len PySem.boot_len (a_cons (e_var (pv 1)) a_nil))))))
  (ss_cons (s_set (i := 10) (c_setComp (own := [("j", 11)]) rfl sc__law_little.nd rfl rfl (sw_true rfl rfl rfl (by decide +kernel)) (blkOk_by (N := sN__law_little) (sc := defScope s__law_little) (by decide +kernel)) (lg_name (i := 11)) (by decide) (i_range1 (by rfl) T.no_range (a_cons (e_var (pv 3)) a_nil)) (fun _ _ _ _ _ => (pg_name (i := 11) sc__law_little.nd rfl (by first | exact Or.inl rfl | exact Or.inr rfl))) (fun _ _ _ _ _ => c_none) (fun _ _ _ _ _ => (e_ix ix_seq l_ix (e_var (pv 9)) (e_op o_mod l_mod (e_op o_add l_add (e_var (pv 5)) (e_var (pv 11))) (e_callB c_len l_len (by rfl) T.no_len PySem.boot_len (a_cons (e_var (pv 9)) a_nil)))))))
  (ss_cons (s_if (t_cmp o_gt l_gt (e_var (pv 6)) e_int (nomark _)) (ss_one (s_set (i := 10) (c_setComp (own := [("sign", 12)]) rfl sc__law_little.nd rfl rfl (sw_true rfl rfl rfl (by decide +kernel)) (blkOk_by (N := sN__law_little) (sc := defScope s__law_little) (by decide +kernel)) (lg_name (i := 12)) (by decide) (i_items rfl (e_var (pv 10))) (fun _ _ _ _ _ => (pg_name (i := 12) sc__law_little.nd rfl (by first | exact Or.inl rfl | exact Or.inr rfl))) (fun _ _ _ _ _ => c_none) (fun _ _ _ _ _ => (e_ix ix_seq l_ix (e_lst (a_cons (e_var (pv 12)) (a_cons e_str a_nil))) (e_callTy c_int l_int (by rfl) T.no_int PyProof.Rows.boot_int (a_cons (e_cmp (op_eqD hr.units) l_eq (e_callKio k__law_draw (hr.mono (by decide)) passL (fun ds g g' h => congrArg Nat.succ ((an_cons an_nil) ds g g' h)) (pv 0) (a_cons (e_var (pv 6)) a_nil)) e_int (nomark _)) a_nil))))))) ss_nil)
  (ss_one (s_expr (ps_expr (e_mut (i := 7) rfl l_app (pe_bm PySem.F.plainAttrs_list PySem.F.slot_list_append PySem.F.type_list_append mt_append (pv 7) (a_cons (e_m rfl l_join (pe_bm PySem.F.plainAttrs_str PySem.F.slot_str_join PySem.F.type_str_join mt_join e_str (a_cons (e_var (pv 10)) a_nil))) a_nil))))))))))
  (ss_cons (s_if (t_cmp (op_eqD hr.units) l_eq (e_callKio k__law_draw (hr.mono (by decide)) (passes_call (takes_of rfl rfl rfl rfl) (fun _ _ _ _ h => h)) (fun ds g g' h => congrArg Nat.succ ((an_cons an_nil) ds g g' h)) (pv 0) (a_cons e_int a_nil)) e_int (nomark _)) (ss_cons (s_set (i := 8) (ps_set (i := 8) sc__law_little.nd rfl (by first | exact Or.inl rfl | exact Or.inr rfl) (e_callKio k__law_draw (hr.mono (by decide)) (passes_call (takes_of rfl rfl rfl rfl) (fun _ _ _ _ h => h)) (fun ds g g' h => congrArg Nat.succ ((an_cons an_nil) ds g g' h)) (pv 0) (a_cons (e_var (pv 2)) a_nil))))
  (ss_cons (s_set (i := 11) (ps_set (i := 11) sc__law_little.nd rfl (by first | exact Or.inl rfl | exact Or.inr rfl) (e_callKio k__law_draw (hr.mono (by decide)) (passes_call (takes_of rfl rfl rfl rfl) (fun _ _ _ _ h => h)) (fun ds g g' h => congrArg Nat.succ ((an_cons an_nil) ds g g' h)) (pv 0) (a_cons (e_var (pv 3)) a_nil))))
  (ss_cons (s_set (i := 12) (ps_set (i := 12) sc__law_little.nd rfl (by first | exact Or.inl rfl | exact Or.inr rfl) (e_ix ix_seq l_ix (e_callKio k__law_signs (hr.mono (by decide)) (passes_call (takes_of rfl rfl rfl rfl) (fun _ _ _ _ h => h)) (fun ds g g' h => congrArg Nat.succ ((an_cons an_nil) ds g g' h)) (pv 0) (a_cons e_int a_nil)) e_int)))
  (ss_one (s_setIx (i := 7) l_set (ps_asg (e_op o_add l_add (e_op o_add l_add (e_sl o_sl l_sl (e_rdIx (i := 7) ix_seq l_ix (pv 7) (e_var (pv 8))) p_none (p_some (e_var (pv 11)))) (e_var (pv 12))) (e_sl o_sl l_sl (e_rdIx (i := 7) ix_seq l_ix (pv 7) (e_var (pv 8))) (p_some (e_op o_add l_add (e_var (pv 11)) e_int)) p_none)) (pg_sub (pv 7) (e_var (pv 8)) set_list))))))) ss_nil)
  (ss_one (s_retMu (i := 7) (ps_ret (pv 7))))))))))
abbrev s_check_table : Stmt := topS 17
theorem sc_check_table : FnScope ["thing"] ["thing"] (defScope s_check_table) := ⟨rfl, rfl, rfl, by decide +kernel, rfl, by decide +kernel, by decide +kernel⟩
abbrev m_check_table : MS := Sp.m_check_table
theorem ok_check_table {f : Addr} {fd : FuncData} (Fu : Fun K "check_table" "check_table" s_check_table f fd) (T : Txt K mg t_FREE c_NoCell c_NoNumber c_NoPose c_NoTable c_TableError c_TooMany) (k_is_table : Kn P w K mg base "is_table" 3 1 2 m_is_table) : FnOk P w K mg base (L2.CX P w) 4 f fd ["thing"] (spD K mg 1 1 m_check_table) :=
  fnD Fu sc_check_table fun cdv A outer s H E S0 io hr => (ss_one (s_if (t_not (t_truth (e_callK k_is_table (hr.mono (by decide)) (passes_call (takes_of rfl rfl rfl rfl) (fun _ _ _ _ h => h)) (an_cons an_nil) (a_cons (e_var (pv 0)) a_nil)))) (ss_one (s_raise T.mg_NoTable (ps_raise rfl (takes_of rfl rfl rfl rfl) (pmk_own PySem.F.excBase_ValueError T.xe_NoTable T.mg_NoTable T.ke_NoTable (raises_own T.be_NoTable T.te_NoTable) (by rfl))))) ss_nil))
abbrev s_check_both : Stmt := topS 19
theorem sc_check_both : FnScope ["great", "little"] ["great", "little"] (defScope s_check_both) := ⟨rfl, rfl, rfl, by decide +kernel, rfl, by decide +kernel, by decide +kernel⟩
abbrev m_check_both : MS := Sp.m_check_both
theorem ok_check_both {f : Addr} {fd : FuncData} (Fu : Fun K "check_both" "check_both" s_check_both f fd) (T : Txt K mg t_FREE c_NoCell c_NoNumber c_NoPose c_NoTable c_TableError c_TooMany) (k_check_little : Kn P w K mg base "check_little" 3 1 1 m_check_little) (k_check_table : Kn P w K mg base "check_table" 4 1 1 m_check_table) : FnOk P w K mg base (L2.CX P w) 5 f fd ["great", "little"] (spD K mg 2 2 m_check_both) :=
  fnD Fu sc_check_both fun cdv A outer s H E S0 io hr => (ss_cons (s_expr (ps_expr (e_callK k_check_table (hr.mono (by decide)) (passes_call (takes_of rfl rfl rfl rfl) (fun _ _ _ _ h => h)) (an_cons an_nil) (a_cons (e_var (pv 0)) a_nil))))
  (ss_one (s_expr (ps_expr (e_callK k_check_little (hr.mono (by decide)) (passes_call (takes_of rfl rfl rfl rfl) (fun _ _ _ _ h => h)) (an_cons an_nil) (a_cons (e_var (pv 1)) a_nil))))))
abbrev s_unlike_at : Stmt := topS 26
theorem sc_unlike_at : FnScope ["great", "little", "cell"] ["great", "little", "cell"] (defScope s_unlike_at) := ⟨rfl, rfl, rfl, by decide +kernel, rfl, by decide +kernel, by decide +kernel⟩
def m_unlike_at : MS :=
  (sSeq (sExpr (mCall Sp.m_check_both 2 (aCons (mVar 0) (aCons (mVar 1) aNil))))
  (sSeq (sIf (mOrT (mNotT (mCall Sp.m_is_cell 1 (aCons (mVar 2) aNil))) (mNotT (mCall Sp.m__lies_wholly 5 (aCons (mVar 0) (aCons (mVar 1) (aCons (mVar 2) aNil)))))) (sRaise "NoCell") sNext)
  (sRet (mCall m__how_many_unlike 8 (aCons (mVar 0) (aCons (mCall Sp.m_cells_of_signs 6 (aCons (mVar 1) aNil)) (aCons (mVar 2) aNil)))))))
theorem ok_unlike_at {f : Addr} {fd : FuncData} (Fu : Fun K "unlike_at" "unlike_at" s_unlike_at f fd) (T : Txt K mg t_FREE c_NoCell c_NoNumber c_NoPose c_NoTable c_TableError c_TooMany) (k__how_many_unlike : Kn P w K mg base "_how_many_unlike" 1 3 8 m__how_many_unlike) (k_cells_of_signs : Kn P w K mg base "cells_of_signs" 1 1 6 m_cells_of_signs) (k_check_both : Kn P w K mg base "check_both" 5 2 2 m_check_both) (k_is_cell : Kn P w K mg base "is_cell" 3 1 1 m_is_cell) (k_lies_wholly : Kn P w K mg base "lies_wholly" 1 3 5 m_lies_wholly) : FnOk P w K mg base (L2.CX P w) 6 f fd ["great", "little", "cell"] (spD K mg 3 3 m_unlike_at) :=
  fnD Fu sc_unlike_at fun cdv A outer s H E S0 io hr => (ss_cons (s_expr (ps_expr (e_callK k_check_both (hr.mono (by decide)) (passes_call (takes_of rfl rfl rfl rfl) (fun _ _ _ _ h => h)) (an_cons (an_cons an_nil)) (a_cons (e_var (pv 0)) (a_cons (e_var (pv 1)) a_nil)))))
  (ss_cons (s_if (PW.pt (w_or (t_not (t_truth (e_callK k_is_cell (hr.mono (by decide)) (passes_call (takes_of rfl rfl rfl rfl) (fun _ _ _ _ h => h)) (an_cons an_nil) (a_cons (e_var (pv 2)) a_nil)))) (w_or1 (t_not (t_truth (e_callK k_lies_wholly (hr.mono (by decide)) (passes_call (takes_of rfl rfl rfl rfl) (fun _ _ _ _ h => h)) (an_cons (an_cons (an_cons an_nil))) (a_cons (e_var (pv 0)) (a_cons (e_var (pv 1)) (a_cons (e_var (pv 2)) a_nil))))))))) (ss_one (s_raise T.mg_NoCell (ps_raise rfl (takes_of rfl rfl rfl rfl) (pmk_own PySem.F.excBase_ValueError T.xe_NoCell T.mg_NoCell T.ke_NoCell (raises_own T.be_NoCell T.te_NoCell) (by rfl))))) ss_nil)
  (ss_one (s_ret (ps_ret (e_callK k__how_many_unlike (hr.mono (by decide)) (passes_call (takes_of rfl rfl rfl rfl) (fun _ _ _ _ h => h)) (an_cons (an_cons (an_cons an_nil))) (a_cons (e_var (pv 0)) (a_cons (e_callK k_cells_of_signs (hr.mono (by decide)) (passes_call (takes_of rfl rfl rfl rfl) (fun _ _ _ _ h => h)) (an_cons an_nil) (a_cons (e_var (pv 1)) a_nil)) (a_cons (e_var (pv 2)) a_nil)))))))))
abbrev s_nearest_cells : Stmt := topS 27
abbrev sN_nearest_cells : List Str := ["great", "little", "cells", "signs", "numbers", "cell", "least", "number"]
theorem sc_nearest_cells : FnScope ["great", "little", "cells", "signs", "numbers", "cell", "least", "number"] ["great", "little"] (defScope s_nearest_cells) := ⟨rfl, rfl, rfl, by decide +kernel, rfl, by decide +kernel, by decide +kernel⟩
def m_nearest_cells : MS :=
  (sSeq (sExpr (mCall Sp.m_check_both 2 (aCons (mVar 0) (aCons (mVar 1) aNil))))
  (sSeq (sSet 2 (mCall Sp.m_cells_to_lie_at 6 (aCons (mVar 0) (aCons (mVar 1) aNil))))
  (sSeq (sIf (mBool (mBin eqD (mB lenD (aCons (mVar 2) aNil)) (mC (.int 0)))) (sRet (mC .non)) sNext)
  (sSeq (sSet 3 (mCall Sp.m_cells_of_signs 6 (aCons (mVar 1) aNil)))
  (sSeq (sSet 4 (mComp (iItems (mVar 2)) (putIm 5) none (mCall m__how_many_unlike 8 (aCons (mVar 0) (aCons (mVar 3) (aCons (mVar 5) aNil)))) [5]))
  (sSeq (sSet 6 (mB minG (aCons (mVar 4) aNil)))
  (sRet (mTup (aCons (mVar 6) (aCons (mComp (iOf zipX (aCons (mVar 2) (aCons (mVar 4) aNil))) (gTupD 2 (gsCons (putIm 5) (gsCons (putIm 7) gsNil))) (some (mBool (mBin eqD (mVar 7) (mVar 6)))) (mVar 5) [5, 7]) aNil))))))))))
theorem ok_nearest_cells {f : Addr} {fd : FuncData} (Fu : Fun K "nearest_cells" "nearest_cells" s_nearest_cells f fd) (T : Txt K mg t_FREE c_NoCell c_NoNumber c_NoPose c_NoTable c_TableError c_TooMany) (k__how_many_unlike : Kn P w K mg base "_how_many_unlike" 1 3 8 m__how_many_unlike) (k_cells_of_signs : Kn P w K mg base "cells_of_signs" 1 1 6 m_cells_of_signs) (k_cells_to_lie_at : Kn P w K mg base "cells_to_lie_at" 1 2 6 m_cells_to_lie_at) (k_check_both : Kn P w K mg base "check_both" 5 2 2 m_check_both) : FnOk P w K mg base (L2.CX P w) 6 f fd ["great", "little"] (spD K mg 2 8 m_nearest_cells) :=
  fnD Fu sc_nearest_cells fun cdv A outer s H E S0 io hr => (ss_cons (s_expr (ps_expr (e_callK k_check_both (hr.mono (by decide)) (passes_call (takes_of rfl rfl rfl rfl) (fun _ _ _ _ h => h)) (an_cons (an_cons an_nil)) (a_cons (e_var (pv 0)) (a_cons (e_var (pv 1)) a_nil)))))
  (ss_cons (s_set (i := 2) (ps_set (i := 2) sc_nearest_cells.nd rfl (by first | exact Or.inl rfl | exact Or.inr rfl) (e_callK k_cells_to_lie_at (hr.mono (by decide)) (passes_call (takes_of rfl rfl rfl rfl) (fun _ _ _ _ h => h)) (an_cons (an_cons an_nil)) (a_cons (e_var (pv 0)) (a_cons (e_var (pv 1)) a_nil)))))
  (ss_cons (s_if (t_cmp (op_eqD hr.units) l_eq (e_callB c_len l_len (by rfl) T.no_len PySem.boot_len (a_cons (e_var (pv 2)) a_nil)) e_int (nomark _)) (ss_one (s_ret (ps_ret e_non))) ss_nil)
  (ss_cons (s_set (i := 3) (ps_set (i := 3) sc_nearest_cells.nd rfl (by first | exact Or.inl rfl | exact Or.inr rfl) (e_callK k_cells_of_signs (hr.mono (by decide)) (passes_call (takes_of rfl rfl rfl rfl) (fun _ _ _ _ h => h)) (an_cons an_nil) (a_cons (e_var (pv 1)) a_nil))))
  (ss_cons (s_set (i := 4) (c_setComp (own := [("cell", 5)]) rfl sc_nearest_cells.nd rfl rfl (sw_true rfl rfl rfl (by decide +kernel)) (blkOk_by (N := sN_nearest_cells) (sc := defScope s_nearest_cells) (by decide +kernel)) (lg_name (i := 5)) (by decide) (i_items rfl (e_var (pv 2))) (fun _ _ _ _ _ => (pg_name (i := 5) sc_nearest_cells.nd rfl (by first | exact Or.inl rfl | exact Or.inr rfl))) (fun _ _ _ _ _ => c_none) (fun _ _ _ _ _ => (e_callK k__how_many_unlike (hr.mono (by decide)) passL (an_cons (an_cons (an_cons an_nil))) (a_cons (e_var (pv 0)) (a_cons (e_var (pv 3)) (a_cons (e_var (pv 5)) a_nil)))))))
  (ss_cons (s_set (i := 6) (ps_set (i := 6) sc_nearest_cells.nd rfl (by first | exact Or.inl rfl | exact Or.inr rfl) (e_callB (cr_minG rfl hr.units) l_minG (by rfl) T.no_min PyProof.Rows.boot_min (a_cons (e_var (pv 4)) a_nil))))
  (ss_one (s_ret (ps_ret (e_tup (a_cons (e_var (pv 6)) (a_cons (e_comp (own := [("cell", 5), ("number", 7)]) rfl sc_nearest_cells.nd (blkOk_by (N := sN_nearest_cells) (sc := defScope s_nearest_cells) (by decide +kernel)) (lg_tup (lgs_cons (lg_name (i := 5)) (lgs_cons (lg_name (i := 7)) lgs_nil))) (by decide) (i_zipX rfl (by rfl) T.no_zip (a_cons (e_var (pv 2)) (a_cons (e_var (pv 4)) a_nil))) (fun _ _ _ _ _ => (pg_tup rfl (pgs_cons (pg_name (i := 5) sc_nearest_cells.nd rfl (by first | exact Or.inl rfl | exact Or.inr rfl)) (pgs_cons (pg_name (i := 7) sc_nearest_cells.nd rfl (by first | exact Or.inl rfl | exact Or.inr rfl)) pgs_nil)))) (fun _ _ _ _ _ => (c_some (t_cmp (op_eqD hr.units) l_eq (e_var (pv 7)) (e_var (pv 6)) (nomark _)))) (fun _ _ _ _ _ => (e_var (pv 5)))) a_nil))))))))))))
abbrev s_near_cells : Stmt := topS 28
abbrev sN_near_cells : List Str := ["great", "little", "k", "signs", "cells", "cell"]
theorem sc_near_cells : FnScope ["great", "little", "k", "signs", "cells", "cell"] ["great", "little", "k"] (defScope s_near_cells) := ⟨rfl, rfl, rfl, by decide +kernel, rfl, by decide +kernel, by decide +kernel⟩
def m_near_cells : MS :=
  (sSeq (sExpr (mCall Sp.m_check_both 2 (aCons (mVar 0) (aCons (mVar 1) aNil))))
  (sSeq (sIf (mNotT (mCall Sp.m_is_count 1 (aCons (mVar 2) aNil))) (sRaise "NoNumber") sNext)
  (sSeq (sSet 3 (mCall Sp.m_cells_of_signs 6 (aCons (mVar 1) aNil)))
  (sSeq (sSet 4 (mCall Sp.m_cells_to_lie_at 6 (aCons (mVar 0) (aCons (mVar 1) aNil))))
  (sRet (mComp (iItems (mVar 4)) (putIm 5) (some (mBool (mBin leD (mCall m__how_many_unlike 8 (aCons (mVar 0) (aCons (mVar 3) (aCons (mVar 5) aNil)))) (mVar 2)))) (mVar 5) [5]))))))
theorem ok_near_cells {f : Addr} {fd : FuncData} (Fu : Fun K "near_cells" "near_cells" s_near_cells f fd) (T : Txt K mg t_FREE c_NoCell c_NoNumber c_NoPose c_NoTable c_TableError c_TooMany) (k__how_many_unlike : Kn P w K mg base "_how_many_unlike" 1 3 8 m__how_many_unlike) (k_cells_of_signs : Kn P w K mg base "cells_of_signs" 1 1 6 m_cells_of_signs) (k_cells_to_lie_at : Kn P w K mg base "cells_to_lie_at" 1 2 6 m_cells_to_lie_at) (k_check_both : Kn P w K mg base "check_both" 5 2 2 m_check_both) (k_is_count : Kn P w K mg base "is_count" 2 1 1 m_is_count) : FnOk P w K mg base (L2.CX P w) 6 f fd ["great", "little", "k"] (spD K mg 3 6 m_near_cells) :=
  fnD Fu sc_near_cells fun cdv A outer s H E S0 io hr => (ss_cons (s_expr (ps_expr (e_callK k_check_both (hr.mono (by decide)) (passes_call (takes_of rfl rfl rfl rfl) (fun _ _ _ _ h => h)) (an_cons (an_cons an_nil)) (a_cons (e_var (pv 0)) (a_cons (e_var (pv 1)) a_nil)))))
  (ss_cons (s_if (t_not (t_truth (e_callK k_is_count (hr.mono (by decide)) (passes_call (takes_of rfl rfl rfl rfl) (fun _ _ _ _ h => h)) (an_cons an_nil) (a_cons (e_var (pv 2)) a_nil)))) (ss_one (s_raise T.mg_NoNumber (ps_raise rfl (takes_of rfl rfl rfl rfl) (pmk_own PySem.F.excBase_ValueError T.xe_NoNumber T.mg_NoNumber T.ke_NoNumber (raises_own T.be_NoNumber T.te_NoNumber) (by rfl))))) ss_nil)
  (ss_cons (s_set (i := 3) (ps_set (i := 3) sc_near_cells.nd rfl (by first | exact Or.inl rfl | exact Or.inr rfl) (e_callK k_cells_of_signs (hr.mono (by decide)) (passes_call (takes_of rfl rfl rfl rfl) (fun _ _ _ _ h => h)) (an_cons an_nil) (a_cons (e_var (pv 1)) a_nil))))
  (ss_cons (s_set (i := 4) (ps_set (i := 4) sc_near_cells.nd rfl (by first | exact Or.inl rfl | exact Or.inr rfl) (e_callK k_cells_to_lie_at (hr.mono (by decide)) (passes_call (takes_of rfl rfl rfl rfl) (fun _ _ _ _ h => h)) (an_cons (an_cons an_nil)) (a_cons (e_var (pv 0)) (a_cons (e_var (pv 1)) a_nil)))))
  (ss_one (s_ret (ps_ret (e_comp (own := [("cell", 5)]) rfl sc_near_cells.nd (blkOk_by (N := sN_near_cells) (sc := defScope s_near_cells) (by decide +kernel)) (lg_name (i := 5)) (by decide) (i_items rfl (e_var (pv 4))) (fun _ _ _ _ _ => (pg_name (i := 5) sc_near_cells.nd rfl (by first | exact Or.inl rfl | exact Or.inr rfl))) (fun _ _ _ _ _ => (c_some (t_cmp o_le l_le (e_callK k__how_many_unlike (hr.mono (by decide)) passL (an_cons (an_cons (an_cons an_nil))) (a_cons (e_var (pv 0)) (a_cons (e_var (pv 3)) (a_cons (e_var (pv 5)) a_nil)))) (e_var (pv 2)) (nomark _)))) (fun _ _ _ _ _ => (e_var (pv 5)))))))))))
abbrev s__law_refused : Stmt := topS 37
theorem sc__law_refused : FnScope ["way", "great", "little", "thing", "caught", "e"] ["way", "great", "little", "thing"] (defScope s__law_refused) := ⟨rfl, rfl, rfl, by decide +kernel, rfl, by decide +kernel, by decide +kernel⟩
def m__law_refused : MS :=
  (sSeq (sSet 4 (mC .non))
  (sSeq (sTry ["NoCell", "NoNumber", "NoTable"] 5 (sIfW (mBool (mBin eqD (mVar 0) (mC (.int 0)))) (sExpr (mCallW m_unlike_at 3 (aCons (mVar 1) (aCons (mVar 2) (aCons (mVar 3) aNil))))) (sExpr (mCallW m_near_cells 6 (aCons (mVar 1) (aCons (mVar 2) (aCons (mVar 3) aNil))))))
  (sSet 4 (mVar 5)))
  (sSeq (sIf (mB (isiX ["NoCell", "NoNumber", "NoTable"] ["NoCell", "NoNumber", "NoPose", "NoTable", "TooMany"]) (aCons (mVar 4) (aCons (mTup (aCons (mC (.cls "NoPose")) (aCons (mC (.cls "NoTable")) (aCons (mC (.cls "TooMany")) aNil)))) aNil))) (sRet (mUn negD (mC (.int 1)))) sNext)
  (sSeq (sIf (mAndT (mBool (mBin isntD (mVar 4) (mC .non))) (mNotT (mB (isiX ["NoCell", "NoNumber", "NoTable"] ["NoCell", "NoNumber", "NoPose", "NoTable", "TooMany"]) (aCons (mVar 4) (aCons (mC (.ob (.ty "ValueError"))) aNil))))) (sRet (mUn negD (mC (.int 1)))) sNext)
  (sRet (mBin addD (mB intD (aCons (mB (isiX ["NoCell", "NoNumber", "NoTable"] ["NoCell", "NoNumber", "NoPose", "NoTable", "TooMany"]) (aCons (mVar 4) (aCons (mC (.cls "NoCell")) aNil))) aNil)) (mBin mulX (mC (.int 2)) (mB intD (aCons (mB (isiX ["NoCell", "NoNumber", "NoTable"] ["NoCell", "NoNumber", "NoPose", "NoTable", "TooMany"]) (aCons (mVar 4) (aCons (mC (.cls "NoNumber")) aNil))) aNil)))))))))
theorem ok__law_refused {f : Addr} {fd : FuncData} (Fu : Fun K "_law_refused" "_law_refused" s__law_refused f fd) (T : Txt K mg t_FREE c_NoCell c_NoNumber c_NoPose c_NoTable c_TableError c_TooMany) (k_near_cells : Kn P w K mg base "near_cells" 6 3 6 m_near_cells) (k_unlike_at : Kn P w K mg base "unlike_at" 6 3 3 m_unlike_at) : FnOk P w K mg base (L2.CX P w) 7 f fd ["way", "great", "little", "thing"] (spD K mg 4 6 m__law_refused) :=
  fnD Fu sc__law_refused fun cdv A outer s H E S0 io hr => (ss_cons (s_set (i := 4) (ps_set (i := 4) sc__law_refused.nd rfl (by first | exact Or.inl rfl | exact Or.inr rfl) e_non))
  (ss_cons (s_try (kn := ["NoCell", "NoNumber", "NoTable"]) (i := 5) rfl rfl rfl sc__law_refused.nd rfl rfl ⟨rfl, by decide, .inl T.mg_TableError⟩ (takes_of rfl rfl rfl rfl) T.cat_TableError (fun W pn xe tk _ => (w_one (w_if (t_cmp (op_eqD hr.units) l_eq (e_var (pv 0)) e_int (nomark _)) (w_one (w_expr (ps_expr (e_callW k_unlike_at (hr.mono (by decide)) tk (an_cons (an_cons (an_cons an_nil))) (a_cons (e_var (pv 1)) (a_cons (e_var (pv 2)) (a_cons (e_var (pv 3)) a_nil))))))) (w_one (w_expr (ps_expr (e_callW k_near_cells (hr.mono (by decide)) tk (an_cons (an_cons (an_cons an_nil))) (a_cons (e_var (pv 1)) (a_cons (e_var (pv 2)) (a_cons (e_var (pv 3)) a_nil)))))))))) (fun a pn => (ss_one (s_set (i := 4) (ps_set (i := 4) sc__law_refused.nd rfl (by first | exact Or.inl rfl | exact Or.inr rfl) (e_var (pv 5)))))))
  (ss_cons (s_if (t_truth (e_callB c_isiX (l_isiX T.clsK) (by rfl) T.no_isinstance PyProof.Rows.boot_isinstance (a_cons (e_var (pv 4)) (a_cons (e_tup (a_cons (e_glob (v := .ref c_NoPose) (by rfl) T.mg_NoPose rfl (fun _ _ => .cls T.ns_NoPose)) (a_cons (e_glob (v := .ref c_NoTable) (by rfl) T.mg_NoTable rfl (fun _ _ => .cls T.ns_NoTable)) (a_cons (e_glob (v := .ref c_TooMany) (by rfl) T.mg_TooMany rfl (fun _ _ => .cls T.ns_TooMany)) a_nil)))) a_nil)))) (ss_one (s_ret (ps_ret (e_un o_neg l_neg e_int)))) ss_nil)
  (ss_cons (s_if (PW.pt (w_and (t_cmp o_isnt l_isnt (e_var (pv 4)) e_non (nomark _)) (w_and1 (t_not (t_truth (e_callB c_isiX (l_isiX T.clsK) (by rfl) T.no_isinstance PyProof.Rows.boot_isinstance (a_cons (e_var (pv 4)) (a_cons (e_ty (v := .ty "ValueError") (by rfl) T.no_ValueError (by decide +kernel) rfl) a_nil)))))))) (ss_one (s_ret (ps_ret (e_un o_neg l_neg e_int)))) ss_nil)
  (ss_one (s_ret (ps_ret (e_op o_add l_add (e_callTy c_int l_int (by rfl) T.no_int PyProof.Rows.boot_int (a_cons (e_callB c_isiX (l_isiX T.clsK) (by rfl) T.no_isinstance PyProof.Rows.boot_isinstance (a_cons (e_var (pv 4)) (a_cons (e_glob (v := .ref c_NoCell) (by rfl) T.mg_NoCell rfl (fun _ _ => .cls T.ns_NoCell)) a_nil))) a_nil)) (e_op o_mulX l_mulX e_int (e_callTy c_int l_int (by rfl) T.no_int PyProof.Rows.boot_int (a_cons (e_callB c_isiX (l_isiX T.clsK) (by rfl) T.no_isinstance PyProof.Rows.boot_isinstance (a_cons (e_var (pv 4)) (a_cons (e_glob (v := .ref c_NoNumber) (by rfl) T.mg_NoNumber rfl (fun _ _ => .cls T.ns_NoNumber)) a_nil))) a_nil)))))))))))
abbrev s__law_near_right : Stmt := topS 38
abbrev sN__law_near_right : List Str := ["pool", "handed", "numbers", "most", "few", "far", "number", "again", "found", "due", "cell", "there", "odd"]
theorem sc__law_near_right : FnScope ["pool", "handed", "numbers", "most", "few", "far", "number", "again", "found", "due", "cell", "there", "odd"] ["pool", "handed", "numbers", "most", "few"] (defScope s__law_near_right) := ⟨rfl, rfl, rfl, by decide +kernel, rfl, by decide +kernel, by decide +kernel⟩
def m__law_near_right : MS :=
  (sSeq (sSet 5 (mCallIo 0 m__law_draw 4 (aCons (mBin powD (mC (.int 10)) (mC (.int 30))) aNil)))
  (sSeq (sFor (iItems (mSl slD (mLst (aCons (mCallIo 0 m__law_draw 4 (aCons (mBin addD (mVar 3) (mC (.int 1))) aNil)) (aCons (mC (.int 0)) (aCons (mC (.int 1)) (aCons (mVar 3) (aCons (mBin addD (mVar 3) (mC (.int 1))) (aCons (mVar 5) aNil))))))) none (some (mVar 4)))) (putIm 6) (sFor (iOf range1D (aCons (mC (.int 2)) aNil)) (putIm 7) (sSeq (sSetMu 8 (mCall m_near_cells 6 (aCons (mBin ixD (mVar 1) (mC (.int 0))) (aCons (mBin ixD (mVar 1) (mC (.int 1))) (aCons (mVar 6) aNil)))))
  (sSeq (sSet 9 (mComp (iItems (mVar 2)) (gTupD 2 (gsCons (putIm 10) (gsCons (putIm 11) gsNil))) (some (mBool (mBin leD (mVar 11) (mVar 6)))) (mVar 10) [10, 11]))
  (sSeq (sIf (mBool (mFrz 8 (mBin neZ (mB reprA (aCons (mVar 8) aNil)) (mB reprA (aCons (mVar 9) aNil))))) (sRet (mC (.bl false))) sNext)
  (sExpr (mMut 8 "list" appD (aCons (mTup (aCons (mC (.int 9)) (aCons (mC (.int 9)) aNil))) aNil))))))))
  (sSeq (sFor (iItems (mLst (aCons (mUn negD (mC (.int 1))) (aCons (mBin subD (mBin subD (mC (.int 0)) (mC (.int 1))) (mVar 5)) (aCons (mC .non) (aCons (mC (.bl true)) (aCons (mC (.bl false)) (aCons (mC (.str "0")) (aCons (mLst (aCons (mC (.int 0)) aNil)) aNil))))))))) (putIm 12) (sIf (mBool (mBin neD (mCall m__law_refused 6 (aCons (mC (.int 1)) (aCons (mBin ixD (mVar 1) (mC (.int 0))) (aCons (mBin ixD (mVar 1) (mC (.int 1))) (aCons (mVar 12) aNil))))) (mC (.int 2)))) (sRet (mC (.bl false))) sNext))
  (sRet (mC (.bl true))))))
theorem ok__law_near_right {f : Addr} {fd : FuncData} (Fu : Fun K "_law_near_right" "_law_near_right" s__law_near_right f fd) (T : Txt K mg t_FREE c_NoCell c_NoNumber c_NoPose c_NoTable c_TableError c_TooMany) (k__law_draw : Kn P w K mg base "_law_draw" 1 2 4 m__law_draw) (k__law_refused : Kn P w K mg base "_law_refused" 7 4 6 m__law_refused) (k_near_cells : Kn P w K mg base "near_cells" 6 3 6 m_near_cells) : FnG P w K mg base (L2.CX P w) 8 f fd ["pool", "handed", "numbers", "most", "few"] (spD K mg 5 13 m__law_near_right) :=
  fnDG Fu sc__law_near_right fun cdv A outer s H E S0 io hg hr => (ss_cons (s_set (i := 5) (ps_set (i := 5) sc__law_near_right.nd rfl (by first | exact Or.inl rfl | exact Or.inr rfl) (e_callKio k__law_draw (hr.mono (by decide)) (passes_call (takes_of rfl rfl rfl rfl) (fun _ _ _ _ h => h)) (fun ds g g' h => congrArg Nat.succ ((an_cons an_nil) ds g g' h)) (pv 0) (a_cons (e_op o_pow l_pow e_int e_int) a_nil))))
  (ss_cons (s_for (passes_of rfl) rfl (lg_name (i := 6)) (i_items rfl (e_sl o_sl l_sl (e_lst (a_cons (e_callKio k__law_draw (hr.mono (by decide)) (passes_call (takes_of rfl rfl rfl rfl) (fun _ _ _ _ h => h)) (fun ds g g' h => congrArg Nat.succ ((an_cons an_nil) ds g g' h)) (pv 0) (a_cons (e_op o_add l_add (e_var (pv 3)) e_int) a_nil)) (a_cons e_int (a_cons e_int (a_cons (e_var (pv 3)) (a_cons (e_op o_add l_add (e_var (pv 3)) e_int) (a_cons (e_var (pv 5)) a_nil))))))) p_none (p_some (e_var (pv 4))))) (pg_name (i := 6) sc__law_near_right.nd rfl (by first | exact Or.inl rfl | exact Or.inr rfl)) (ss_one (s_for (passes_of rfl) rfl (lg_name (i := 7)) (i_range1 (by rfl) T.no_range (a_cons e_int a_nil)) (pg_name (i := 7) sc__law_near_right.nd rfl (by first | exact Or.inl rfl | exact Or.inr rfl)) (ss_cons (s_setMu (i := 8) (ps_set (i := 8) sc__law_near_right.nd rfl (by first | exact Or.inl rfl | exact Or.inr rfl) (e_callK k_near_cells (hr.mono (by decide)) (passes_call (takes_of rfl rfl rfl rfl) (fun _ _ _ _ h => h)) (an_cons (an_cons (an_cons an_nil))) (a_cons (e_ix ix_seq l_ix (e_var (pv 1)) e_int) (a_cons (e_ix ix_seq l_ix (e_var (pv 1)) e_int) (a_cons (e_var (pv 6)) a_nil))))))
  (ss_cons (s_set (i := 9) (c_setComp (own := [("cell", 10), ("there", 11)]) rfl sc__law_near_right.nd rfl rfl (sw_true rfl rfl rfl (by decide +kernel)) (blkOk_by (N := sN__law_near_right) (sc := defScope s__law_near_right) (by decide +kernel)) (lg_tup (lgs_cons (lg_name (i := 10)) (lgs_cons (lg_name (i := 11)) lgs_nil))) (by decide) (i_items rfl (e_var (pv 2))) (fun _ _ _ _ _ => (pg_tup rfl (pgs_cons (pg_name (i := 10) sc__law_near_right.nd rfl (by first | exact Or.inl rfl | exact Or.inr rfl)) (pgs_cons (pg_name (i := 11) sc__law_near_right.nd rfl (by first | exact Or.inl rfl | exact Or.inr rfl)) pgs_nil)))) (fun _ _ _ _ _ => (c_some (t_cmp o_le l_le (e_var (pv 11)) (e_var (pv 6)) (nomark _)))) (fun _ _ _ _ _ => (e_var (pv 10)))))
  (ss_cons (s_if (t_cmpF 8 (op_neZ hr.units) l_neZ (e_callB (call_reprA hg (u70 hr)) l_reprA (by rfl) T.no_repr PyProof.Rows.boot_repr (a_cons (e_var (pv 8)) a_nil)) (e_callB (call_reprA hg (u70 hr)) l_reprA (by rfl) T.no_repr PyProof.Rows.boot_repr (a_cons (e_var (pv 9)) a_nil)) (nomark _)) (ss_one (s_ret (ps_ret e_bl))) ss_nil)
  (ss_one (s_expr (ps_expr (e_mut (i := 8) rfl l_app (pe_bm PySem.F.plainAttrs_list PySem.F.slot_list_append PySem.F.type_list_append mt_append (pv 8) (a_cons (e_tup (a_cons e_int (a_cons e_int a_nil))) a_nil))))))))))))
  (ss_cons (s_for (passes_of rfl) rfl (lg_name (i := 12)) (i_items rfl (e_lst (a_cons (e_un o_neg l_neg e_int) (a_cons (e_op o_sub l_sub (e_op o_sub l_sub e_int e_int) (e_var (pv 5))) (a_cons e_non (a_cons e_bl (a_cons e_bl (a_cons e_str (a_cons (e_lst (a_cons e_int a_nil)) a_nil))))))))) (pg_name (i := 12) sc__law_near_right.nd rfl (by first | exact Or.inl rfl | exact Or.inr rfl)) (ss_one (s_if (t_cmp (op_neD hr.units) l_ne (e_callK k__law_refused (hr.mono (by decide)) (passes_call (takes_of rfl rfl rfl rfl) (fun _ _ _ _ h => h)) (an_cons (an_cons (an_cons (an_cons an_nil)))) (a_cons e_int (a_cons (e_ix ix_seq l_ix (e_var (pv 1)) e_int) (a_cons (e_ix ix_seq l_ix (e_var (pv 1)) e_int) (a_cons (e_var (pv 12)) a_nil))))) e_int (nomark _)) (ss_one (s_ret (ps_ret e_bl))) ss_nil)))
  (ss_one (s_ret (ps_ret e_bl))))))
abbrev s__law_cells_right : Stmt := topS 39
abbrev sN__law_cells_right : List Str := ["pool", "handed", "some", "cells", "cell", "number", "found", "far", "odd", "thing", "x"]
theorem sc__law_cells_right : FnScope ["pool", "handed", "some", "cells", "cell", "number", "found", "far", "odd", "thing", "x"] ["pool", "handed", "some", "cells"] (defScope s__law_cells_right) := ⟨rfl, rfl, rfl, by decide +kernel, rfl, by decide +kernel, by decide +kernel⟩
def m__law_cells_right : MS :=
  (sSeq (sFor (iItems (mVar 2)) (gTupD 2 (gsCons (putIm 4) (gsCons (putIm 5) gsNil))) (sSeq (sSet 6 (mCall m_unlike_at 3 (aCons (mBin ixD (mVar 1) (mC (.int 0))) (aCons (mBin ixD (mVar 1) (mC (.int 1))) (aCons (mVar 4) aNil)))))
  (sIf (mOrT (mNotT (mB isiD (aCons (mVar 6) (aCons (mC (.ob (.ty "int"))) aNil)))) (mOrT (mB isiD (aCons (mVar 6) (aCons (mC (.ob (.ty "bool"))) aNil))) (mBool (mBin neD (mVar 6) (mVar 5))))) (sRet (mC (.bl false))) sNext)))
  (sSeq (sSet 7 (mCallIo 0 m__law_draw 4 (aCons (mBin powD (mC (.int 10)) (mC (.int 30))) aNil)))
  (sSeq (sSet 8 (mLst (aCons (mTup (aCons (mUn negD (mC (.int 1))) (aCons (mC (.int 0)) aNil))) (aCons (mTup (aCons (mC (.int 0)) (aCons (mUn negD (mC (.int 1))) aNil))) (aCons (mTup (aCons (mB lenD (aCons (mBin ixD (mVar 1) (mC (.int 0))) aNil)) (aCons (mC (.int 0)) aNil))) (aCons (mTup (aCons (mC (.int 0)) (aCons (mB lenD (aCons (mBin ixD (mBin ixD (mVar 1) (mC (.int 0))) (mC (.int 0))) aNil)) aNil))) (aCons (mTup (aCons (mBin addD (mVar 7) (mC (.int 50))) (aCons (mC (.int 0)) aNil))) (aCons (mTup (aCons (mC (.int 0)) (aCons (mBin subD (mBin subD (mC (.int 0)) (mC (.int 1))) (mVar 7)) aNil))) aNil))))))))
  (sSeq (sSet 8 (mBin addD (mVar 8) (mLst (aCons (mTup (aCons (mBin addD (mBin subD (mB lenD (aCons (mBin ixD (mVar 1) (mC (.int 0))) aNil)) (mB lenD (aCons (mBin ixD (mVar 1) (mC (.int 1))) aNil))) (mC (.int 1))) (aCons (mC (.int 0)) aNil))) (aCons (mTup (aCons (mC (.int 0)) (aCons (mBin addD (mBin subD (mB lenD (aCons (mBin ixD (mBin ixD (mVar 1) (mC (.int 0))) (mC (.int 0))) aNil)) (mB lenD (aCons (mBin ixD (mBin ixD (mVar 1) (mC (.int 1))) (mC (.int 0))) aNil))) (mC (.int 1))) aNil))) aNil)))))
  (sSeq (sSet 8 (mBin addD (mVar 8) (mLst (aCons (mC .non) (aCons (mTup (aCons (mC (.int 0)) aNil)) (aCons (mTup (aCons (mC (.int 0)) (aCons (mC (.int 0)) (aCons (mC (.int 0)) aNil)))) (aCons (mLst (aCons (mC (.int 0)) (aCons (mC (.int 0)) aNil))) (aCons (mTup (aCons (mC (.bl true)) (aCons (mC (.int 0)) aNil))) (aCons (mTup (aCons (mC (.int 0)) (aCons (mC (.bl false)) aNil))) (aCons (mTup (aCons (mC (.str "0")) (aCons (mC (.int 0)) aNil))) (aCons (mC (.str "00")) (aCons (mC (.int 5)) (aCons (mTup (aCons (mC .non) (aCons (mC (.int 0)) aNil))) (aCons (mTup (aCons (mTup (aCons (mC (.int 0)) (aCons (mC (.int 0)) aNil))) (aCons (mC (.int 0)) aNil))) aNil))))))))))))))
  (sSeq (sSet 8 (mBin addD (mVar 8) (mLst (aCons (mTup (aCons (mC (.int 0)) (aCons (mC .non) aNil))) (aCons (mTup (aCons (mC (.int 0)) (aCons (mC (.str "0")) aNil))) (aCons (mTup (aCons (mC (.int 0)) (aCons (mTup (aCons (mC (.int 0)) aNil)) aNil))) aNil))))))
  (sSeq (sFor (iItems (mVar 8)) (putIm 9) (sIf (mOrT (mBool (mBin ninY (mVar 9) (mVar 3))) (mAndT (mB isiD (aCons (mVar 9) (aCons (mC (.ob (.ty "tuple"))) aNil))) (mBool (mBin neD (mComp (iItems (mVar 9)) (putIm 10) (some (mB isiD (aCons (mVar 10) (aCons (mC (.ob (.ty "bool"))) aNil)))) (mVar 10) [10]) (mLst aNil))))) (sIf (mBool (mBin neD (mCall m__law_refused 6 (aCons (mC (.int 0)) (aCons (mBin ixD (mVar 1) (mC (.int 0))) (aCons (mBin ixD (mVar 1) (mC (.int 1))) (aCons (mVar 9) aNil))))) (mC (.int 1)))) (sRet (mC (.bl false))) sNext) sNext))
  (sRet (mC (.bl true))))))))))
theorem ok__law_cells_right {f : Addr} {fd : FuncData} (Fu : Fun K "_law_cells_right" "_law_cells_right" s__law_cells_right f fd) (T : Txt K mg t_FREE c_NoCell c_NoNumber c_NoPose c_NoTable c_TableError c_TooMany) (k__law_draw : Kn P w K mg base "_law_draw" 1 2 4 m__law_draw) (k__law_refused : Kn P w K mg base "_law_refused" 7 4 6 m__law_refused) (k_unlike_at : Kn P w K mg base "unlike_at" 6 3 3 m_unlike_at) : FnOk P w K mg base (L2.CX P w) 8 f fd ["pool", "handed", "some", "cells"] (spD K mg 4 11 m__law_cells_right) :=
  fnD Fu sc__law_cells_right fun cdv A outer s H E S0 io hr => (ss_cons (s_for (passes_of rfl) rfl (lg_tup (lgs_cons (lg_name (i := 4)) (lgs_cons (lg_name (i := 5)) lgs_nil))) (i_items rfl (e_var (pv 2))) (pg_tup rfl (pgs_cons (pg_name (i := 4) sc__law_cells_right.nd rfl (by first | exact Or.inl rfl | exact Or.inr rfl)) (pgs_cons (pg_name (i := 5) sc__law_cells_right.nd rfl (by first | exact Or.inl rfl | exact Or.inr rfl)) pgs_nil))) (ss_cons (s_set (i := 6) (ps_set (i := 6) sc__law_cells_right.nd rfl (by first | exact Or.inl rfl | exact Or.inr rfl) (e_callK k_unlike_at (hr.mono (by decide)) (passes_call (takes_of rfl rfl rfl rfl) (fun _ _ _ _ h => h)) (an_cons (an_cons (an_cons an_nil))) (a_cons (e_ix ix_seq l_ix (e_var (pv 1)) e_int) (a_cons (e_ix ix_seq l_ix (e_var (pv 1)) e_int) (a_cons (e_var (pv 4)) a_nil))))))
  (ss_one (s_if (PW.pt (w_or (t_not (t_truth (e_callB c_isi l_isi (by rfl) T.no_isinstance PyProof.Rows.boot_isinstance (a_cons (e_var (pv 6)) (a_cons (e_ty (v := .ty "int") (by rfl) T.no_int PyProof.Rows.boot_int rfl) a_nil))))) (w_or (t_truth (e_callB c_isi l_isi (by rfl) T.no_isinstance PyProof.Rows.boot_isinstance (a_cons (e_var (pv 6)) (a_cons (e_ty (v := .ty "bool") (by rfl) T.no_bool PyProof.Rows.boot_bool rfl) a_nil)))) (w_or1 (t_cmp (op_neD hr.units) l_ne (e_var (pv 6)) (e_var (pv 5)) (nomark _)))))) (ss_one (s_ret (ps_ret e_bl))) ss_nil))))
  (ss_cons (s_set (i := 7) (ps_set (i := 7) sc__law_cells_right.nd rfl (by first | exact Or.inl rfl | exact Or.inr rfl) (e_callKio k__law_draw (hr.mono (by decide)) (passes_call (takes_of rfl rfl rfl rfl) (fun _ _ _ _ h => h)) (fun ds g g' h => congrArg Nat.succ ((an_cons an_nil) ds g g' h)) (pv 0) (a_cons (e_op o_pow l_pow e_int e_int) a_nil))))
  (ss_cons (s_set (i := 8) (ps_set (i := 8) sc__law_cells_right.nd rfl (by first | exact Or.inl rfl | exact Or.inr rfl) (e_lst (a_cons (e_tup (a_cons (e_un o_neg l_neg e_int) (a_cons e_int a_nil))) (a_cons (e_tup (a_cons e_int (a_cons (e_un o_neg l_neg e_int) a_nil))) (a_cons (e_tup (a_cons (e_callB c_len l_len (by rfl) T.no_len PySem.boot_len (a_cons (e_ix ix_seq l_ix (e_var (pv 1)) e_int) a_nil)) (a_cons e_int a_nil))) (a_cons (e_tup (a_cons e_int (a_cons (e_callB c_len l_len (by rfl) T.no_len PySem.boot_len (a_cons (e_ix ix_seq l_ix (e_ix ix_seq l_ix (e_var (pv 1)) e_int) e_int) a_nil)) a_nil))) (a_cons (e_tup (a_cons (e_op o_add l_add (e_var (pv 7)) e_int) (a_cons e_int a_nil))) (a_cons (e_tup (a_cons e_int (a_cons (e_op o_sub l_sub (e_op o_sub l_sub e_int e_int) (e_var (pv 7))) a_nil))) a_nil)))))))))
  (ss_cons (s_set (i := 8) (ps_set (i := 8) sc__law_cells_right.nd rfl (by first | exact Or.inl rfl | exact Or.inr rfl) (e_op o_add l_add (e_var (pv 8)) (e_lst (a_cons (e_tup (a_cons (e_op o_add l_add (e_op o_sub l_sub (e_callB c_len l_len (by rfl) T.no_len PySem.boot_len (a_cons (e_ix ix_seq l_ix (e_var (pv 1)) e_int) a_nil)) (e_callB c_len l_len (by rfl) T.no_len PySem.boot_len (a_cons (e_ix ix_seq l_ix (e_var (pv 1)) e_int) a_nil))) e_int) (a_cons e_int a_nil))) (a_cons (e_tup (a_cons e_int (a_cons (e_op o_add l_add (e_op o_sub l_sub (e_callB c_len l_len (by rfl) T.no_len PySem.boot_len (a_cons (e_ix ix_seq l_ix (e_ix ix_seq l_ix (e_var (pv 1)) e_int) e_int) a_nil)) (e_callB c_len l_len (by rfl) T.no_len PySem.boot_len (a_cons (e_ix ix_seq l_ix (e_ix ix_seq l_ix (e_var (pv 1)) e_int) e_int) a_nil))) e_int) a_nil))) a_nil))))))
  (ss_cons (s_set (i := 8) (ps_set (i := 8) sc__law_cells_right.nd rfl (by first | exact Or.inl rfl | exact Or.inr rfl) (e_op o_add l_add (e_var (pv 8)) (e_lst (a_cons e_non (a_cons (e_tup (a_cons e_int a_nil)) (a_cons (e_tup (a_cons e_int (a_cons e_int (a_cons e_int a_nil)))) (a_cons (e_lst (a_cons e_int (a_cons e_int a_nil))) (a_cons (e_tup (a_cons e_bl (a_cons e_int a_nil))) (a_cons (e_tup (a_cons e_int (a_cons e_bl a_nil))) (a_cons (e_tup (a_cons e_str (a_cons e_int a_nil))) (a_cons e_str (a_cons e_int (a_cons (e_tup (a_cons e_non (a_cons e_int a_nil))) (a_cons (e_tup (a_cons (e_tup (a_cons e_int (a_cons e_int a_nil))) (a_cons e_int a_nil))) a_nil)))))))))))))))
  (ss_cons (s_set (i := 8) (ps_set (i := 8) sc__law_cells_right.nd rfl (by first | exact Or.inl rfl | exact Or.inr rfl) (e_op o_add l_add (e_var (pv 8)) (e_lst (a_cons (e_tup (a_cons e_int (a_cons e_non a_nil))) (a_cons (e_tup (a_cons e_int (a_cons e_str a_nil))) (a_cons (e_tup (a_cons e_int (a_cons (e_tup (a_cons e_int a_nil)) a_nil))) a_nil)))))))
  (ss_cons (s_for (passes_of rfl) rfl (lg_name (i := 9)) (i_items rfl (e_var (pv 8))) (pg_name (i := 9) sc__law_cells_right.nd rfl (by first | exact Or.inl rfl | exact Or.inr rfl)) (ss_one (s_if (PW.pt (w_or (t_cmp (o_ninY hr) l_ninY (e_var (pv 9)) (e_var (pv 3))) (w_or1 (PW.pt (w_and (t_truth (e_callB c_isi l_isi (by rfl) T.no_isinstance PyProof.Rows.boot_isinstance (a_cons (e_var (pv 9)) (a_cons (e_ty (v := .ty "tuple") (by rfl) T.no_tuple PyProof.Rows.boot_tuple rfl) a_nil)))) (w_and1 (t_cmp (op_neD hr.units) l_ne (e_comp (own := [("x", 10)]) rfl sc__law_cells_right.nd (blkOk_by (N := sN__law_cells_right) (sc := defScope s__law_cells_right) (by decide +kernel)) (lg_name (i := 10)) (by decide) (i_items rfl (e_var (pv 9))) (fun _ _ _ _ _ => (pg_name (i := 10) sc__law_cells_right.nd rfl (by first | exact Or.inl rfl | exact Or.inr rfl))) (fun _ _ _ _ _ => (c_some (t_truth (e_callB c_isi l_isi (by rfl) T.no_isinstance PyProof.Rows.boot_isinstance (a_cons (e_var (pv 10)) (a_cons (e_ty (v := .ty "bool") (by rfl) T.no_bool PyProof.Rows.boot_bool rfl) a_nil)))))) (fun _ _ _ _ _ => (e_var (pv 10)))) (e_lst a_nil) (nomark _)))))))) (ss_one (s_if (t_cmp (op_neD hr.units) l_ne (e_callK k__law_refused (hr.mono (by decide)) (passes_call (takes_of rfl rfl rfl rfl) (fun _ _ _ _ h => h)) (an_cons (an_cons (an_cons (an_cons an_nil)))) (a_cons e_int (a_cons (e_ix ix_seq l_ix (e_var (pv 1)) e_int) (a_cons (e_ix ix_seq l_ix (e_var (pv 1)) e_int) (a_cons (e_var (pv 9)) a_nil))))) e_int (nomark _)) (ss_one (s_ret (ps_ret e_bl))) ss_nil)) ss_nil)))
  (ss_one (s_ret (ps_ret e_bl))))))))))
abbrev s_law : Stmt := topS 41
abbrev sN_law : List Str := ["script", "k", "pool", "far", "wide", "rows", "great", "high", "little", "numbers", "due", "least", "cell", "number", "handed", "again", "found", "most"]
theorem sc_law : FnScope ["script", "k", "pool", "far", "wide", "rows", "great", "high", "little", "numbers", "due", "least", "cell", "number", "handed", "again", "found", "most"] ["script"] (defScope s_law) := ⟨rfl, rfl, rfl, by decide +kernel, rfl, by decide +kernel, by decide +kernel⟩
def m_law : MS :=
  (sSeq (sFor (iOf range1D (aCons (mB max2D (aCons (mC (.int 1)) (aCons (mB min2D (aCons (mC (.int 6)) (aCons (mB lenD (aCons (mVar 0) aNil)) aNil))) aNil))) aNil)) (putIm 1) (sSeq (sSetMu 2 (mCall Sd.m__law_pool 3 (aCons (mVar 0) (aCons (mVar 1) aNil))))
  (sSeq (sSet 3 (mB intD (aCons (mAndV (mBin eqD (mCallIo 2 m__law_draw 4 (aCons (mC (.int 12)) aNil)) (mC (.int 1))) (mBin eqD (mVar 1) (mC (.int 0)))) aNil)))
  (sSeq (sSet 4 (mB intD (aCons (mAndV (mBin eqD (mCallIo 2 m__law_draw 4 (aCons (mC (.int 12)) aNil)) (mC (.int 1))) (mBin eqD (mVar 1) (mC (.int 0)))) aNil)))
  (sSeq (sSet 5 (mBin ixD (mLst (aCons (mBin addD (mC (.int 1)) (mCallIo 2 m__law_draw 4 (aCons (mC (.int 7)) aNil))) (aCons (mBin addD (mC (.int 8)) (mCallIo 2 m__law_draw 4 (aCons (mC (.int 33)) aNil))) aNil))) (mVar 3)))
  (sSeq (sSet 6 (mCallIo 2 m__law_great 10 (aCons (mVar 5) (aCons (mBin ixD (mLst (aCons (mBin addD (mC (.int 1)) (mCallIo 2 m__law_draw 4 (aCons (mC (.int 7)) aNil))) (aCons (mBin addD (mC (.int 8)) (mCallIo 2 m__law_draw 4 (aCons (mC (.int 33)) aNil))) aNil))) (mVar 4)) aNil))))
  (sSeq (sSet 7 (mBin addD (mC (.int 1)) (mCallIo 2 m__law_draw 4 (aCons (mBin ixD (mLst (aCons (mC (.int 5)) (aCons (mC (.int 12)) aNil))) (mVar 3)) aNil))))
  (sSeq (sSet 8 (mCallIo 2 m__law_little 13 (aCons (mVar 6) (aCons (mVar 7) (aCons (mBin addD (mC (.int 1)) (mCallIo 2 m__law_draw 4 (aCons (mBin ixD (mLst (aCons (mC (.int 5)) (aCons (mC (.int 12)) aNil))) (mVar 4)) aNil))) aNil)))))
  (sSeq (sSet 3 (mB max2D (aCons (mVar 3) (aCons (mVar 4) aNil))))
  (sSeq (sSet 9 (mCall m__law_numbers 10 (aCons (mVar 6) (aCons (mVar 8) aNil))))
  (sSeq (sSet 10 (mC .non))
  (sSeq (sIf (mBool (mBin neD (mVar 9) (mLst aNil))) (sSeq (sSet 11 (mB minG (aCons (mComp (iItems (mVar 9)) (gTupD 2 (gsCons (putIm 12) (gsCons (putIm 13) gsNil))) none (mVar 13) [12, 13]) aNil)))
  (sSet 10 (mTup (aCons (mVar 11) (aCons (mComp (iItems (mVar 9)) (gTupD 2 (gsCons (putIm 12) (gsCons (putIm 13) gsNil))) (some (mBool (mBin eqD (mVar 13) (mVar 11)))) (mVar 12) [12, 13]) aNil))))) sNext)
  (sSeq (sSet 14 (mLst (aCons (mB listA (aCons (mVar 6) aNil)) (aCons (mB listA (aCons (mVar 8) aNil)) aNil))))
  (sSeq (sFor (iOf range1D (aCons (mC (.int 2)) aNil)) (putIm 15) (sFresh 16 m_nearest_cells 8 (aCons (mBin ixD (mVar 14) (mC (.int 0))) (aCons (mBin ixD (mVar 14) (mC (.int 1))) aNil)) (mBool (mBin neZ (mB reprA (aCons (mVar 16) aNil)) (mB reprA (aCons (mVar 10) aNil)))) (mBool (mBin isntD (mVar 16) (mC .non))) (aCons (mTup (aCons (mC (.int 9)) (aCons (mC (.int 9)) aNil))) aNil)))
  (sSeq (sIf (mNotT (mCallIo 2 m__law_cells_right 11 (aCons (mVar 14) (aCons (mCallIo 2 m__law_some 5 (aCons (mVar 9) (aCons (mVar 3) aNil))) (aCons (mComp (iItems (mVar 9)) (gTupD 2 (gsCons (putIm 12) (gsCons (putIm 13) gsNil))) none (mVar 12) [12, 13]) aNil))))) (sRet (mC (.bl false))) sNext)
  (sSeq (sSet 17 (mBin mulX (mB lenD (aCons (mVar 8) aNil)) (mB lenD (aCons (mBin ixD (mVar 8) (mC (.int 0))) aNil))))
  (sIf (mOrT (mNotT (mCallIo 2 m__law_near_right 13 (aCons (mVar 14) (aCons (mVar 9) (aCons (mVar 17) (aCons (mBin ixD (mLst (aCons (mC (.int 6)) (aCons (mC (.int 1)) aNil))) (mVar 3)) aNil)))))) (mBool (mBin neD (mVar 14) (mLst (aCons (mVar 6) (aCons (mVar 8) aNil)))))) (sRet (mC (.bl false))) sNext)))))))))))))))))
  (sRet (mC (.bl true))))
theorem ok_law {f : Addr} {fd : FuncData} (Fu : Fun K "law" "law" s_law f fd) (T : Txt K mg t_FREE c_NoCell c_NoNumber c_NoPose c_NoTable c_TableError c_TooMany) (k__law_cells_right : Kn P w K mg base "_law_cells_right" 8 4 11 m__law_cells_right) (k__law_draw : Kn P w K mg base "_law_draw" 1 2 4 m__law_draw) (k__law_great : Kn P w K mg base "_law_great" 3 3 10 m__law_great) (k__law_little : Kn P w K mg base "_law_little" 3 4 13 m__law_little) (k__law_near_right : KnG P w K mg base "_law_near_right" 8 5 13 m__law_near_right) (k__law_numbers : Kn P w K mg base "_law_numbers" 1 2 10 m__law_numbers) (k__law_pool : Kn P w K mg base "_law_pool" 1 2 3 m__law_pool) (k__law_some : Kn P w K mg base "_law_some" 2 3 5 m__law_some) (k_nearest_cells : Kn P w K mg base "nearest_cells" 6 2 8 m_nearest_cells) : FnG P w K mg base (L2.CX P w) 9 f fd ["script"] (spD K mg 1 18 m_law) :=
  fnDG Fu sc_law fun cdv A outer s H E S0 io hg hr => (ss_cons (s_for (passes_of rfl) rfl (lg_name (i := 1)) (i_range1 (by rfl) T.no_range (a_cons (e_callB (call_max2 rfl) l_max2 (by rfl) T.no_max PyProof.Rows.boot_max (a_cons e_int (a_cons (e_callB (call_min2 rfl) l_min2 (by rfl) T.no_min PyProof.Rows.boot_min (a_cons e_int (a_cons (e_callB c_len l_len (by rfl) T.no_len PySem.boot_len (a_cons (e_var (pv 0)) a_nil)) a_nil))) a_nil))) a_nil)) (pg_name (i := 1) sc_law.nd rfl (by first | exact Or.inl rfl | exact Or.inr rfl)) (ss_cons (s_setMu (i := 2) (ps_set (i := 2) sc_law.nd rfl (by first | exact Or.inl rfl | exact Or.inr rfl) (e_callK k__law_pool (hr.mono (by decide)) (passes_call (takes_of rfl rfl rfl rfl) (fun _ _ _ _ h => h)) (an_cons (an_cons an_nil)) (a_cons (e_var (pv 0)) (a_cons (e_var (pv 1)) a_nil)))))
  (ss_cons (s_set (i := 3) (ps_set (i := 3) sc_law.nd rfl (by first | exact Or.inl rfl | exact Or.inr rfl) (e_callTy c_int l_int (by rfl) T.no_int PyProof.Rows.boot_int (a_cons (e_and (e_cmp (op_eqD hr.units) l_eq (e_callKio k__law_draw (hr.mono (by decide)) (passes_call (takes_of rfl rfl rfl rfl) (fun _ _ _ _ h => h)) (fun ds g g' h => congrArg Nat.succ ((an_cons an_nil) ds g g' h)) (pv 2) (a_cons e_int a_nil)) e_int (nomark _)) (e_one (e_cmp (op_eqD hr.units) l_eq (e_var (pv 1)) e_int (nomark _)))) a_nil))))
  (ss_cons (s_set (i := 4) (ps_set (i := 4) sc_law.nd rfl (by first | exact Or.inl rfl | exact Or.inr rfl) (e_callTy c_int l_int (by rfl) T.no_int PyProof.Rows.boot_int (a_cons (e_and (e_cmp (op_eqD hr.units) l_eq (e_callKio k__law_draw (hr.mono (by decide)) (passes_call (takes_of rfl rfl rfl rfl) (fun _ _ _ _ h => h)) (fun ds g g' h => congrArg Nat.succ ((an_cons an_nil) ds g g' h)) (pv 2) (a_cons e_int a_nil)) e_int (nomark _)) (e_one (e_cmp (op_eqD hr.units) l_eq (e_var (pv 1)) e_int (nomark _)))) a_nil))))
  (ss_cons (s_set (i := 5) (ps_set (i := 5) sc_law.nd rfl (by first | exact Or.inl rfl | exact Or.inr rfl) (e_ix ix_seq l_ix (e_lst (a_cons (e_op o_add l_add e_int (e_callKio k__law_draw (hr.mono (by decide)) (passes_call (takes_of rfl rfl rfl rfl) (fun _ _ _ _ h => h)) (fun ds g g' h => congrArg Nat.succ ((an_cons an_nil) ds g g' h)) (pv 2) (a_cons e_int a_nil))) (a_cons (e_op o_add l_add e_int (e_callKio k__law_draw (hr.mono (by decide)) (passes_call (takes_of rfl rfl rfl rfl) (fun _ _ _ _ h => h)) (fun ds g g' h => congrArg Nat.succ ((an_cons an_nil) ds g g' h)) (pv 2) (a_cons e_int a_nil))) a_nil))) (e_var (pv 3)))))
  (ss_cons (s_set (i := 6) (ps_set (i := 6) sc_law.nd rfl (by first | exact Or.inl rfl | exact Or.inr rfl) (e_callKio k__law_great (hr.mono (by decide)) (passes_call (takes_of rfl rfl rfl rfl) (fun _ _ _ _ h => h)) (fun ds g g' h => congrArg Nat.succ ((an_cons (an_cons an_nil)) ds g g' h)) (pv 2) (a_cons (e_var (pv 5)) (a_cons (e_ix ix_seq l_ix (e_lst (a_cons (e_op o_add l_add e_int (e_callKio k__law_draw (hr.mono (by decide)) (passes_call (takes_of rfl rfl rfl rfl) (fun _ _ _ _ h => h)) (fun ds g g' h => congrArg Nat.succ ((an_cons an_nil) ds g g' h)) (pv 2) (a_cons e_int a_nil))) (a_cons (e_op o_add l_add e_int (e_callKio k__law_draw (hr.mono (by decide)) (passes_call (takes_of rfl rfl rfl rfl) (fun _ _ _ _ h => h)) (fun ds g g' h => congrArg Nat.succ ((an_cons an_nil) ds g g' h)) (pv 2) (a_cons e_int a_nil))) a_nil))) (e_var (pv 4))) a_nil)))))
  (ss_cons (s_set (i := 7) (ps_set (i := 7) sc_law.nd rfl (by first | exact Or.inl rfl | exact Or.inr rfl) (e_op o_add l_add e_int (e_callKio k__law_draw (hr.mono (by decide)) (passes_call (takes_of rfl rfl rfl rfl) (fun _ _ _ _ h => h)) (fun ds g g' h => congrArg Nat.succ ((an_cons an_nil) ds g g' h)) (pv 2) (a_cons (e_ix ix_seq l_ix (e_lst (a_cons e_int (a_cons e_int a_nil))) (e_var (pv 3))) a_nil)))))
  (ss_cons (s_set (i := 8) (ps_set (i := 8) sc_law.nd rfl (by first | exact Or.inl rfl | exact Or.inr rfl) (e_callKio k__law_little (hr.mono (by decide)) (passes_call (takes_of rfl rfl rfl rfl) (fun _ _ _ _ h => h)) (fun ds g g' h => congrArg Nat.succ ((an_cons (an_cons (an_cons an_nil))) ds g g' h)) (pv 2) (a_cons (e_var (pv 6)) (a_cons (e_var (pv 7)) (a_cons (e_op o_add l_add e_int (e_callKio k__law_draw (hr.mono (by decide)) (passes_call (takes_of rfl rfl rfl rfl) (fun _ _ _ _ h => h)) (fun ds g g' h => congrArg Nat.succ ((an_cons an_nil) ds g g' h)) (pv 2) (a_cons (e_ix ix_seq l_ix (e_lst (a_cons e_int (a_cons e_int a_nil))) (e_var (pv 4))) a_nil))) a_nil))))))
  (ss_cons (s_set (i := 3) (ps_set (i := 3) sc_law.nd rfl (by first | exact Or.inl rfl | exact Or.inr rfl) (e_callB (call_max2 rfl) l_max2 (by rfl) T.no_max PyProof.Rows.boot_max (a_cons (e_var (pv 3)) (a_cons (e_var (pv 4)) a_nil)))))
  (ss_cons (s_set (i := 9) (ps_set (i := 9) sc_law.nd rfl (by first | exact Or.inl rfl | exact Or.inr rfl) (e_callK k__law_numbers (hr.mono (by decide)) (passes_call (takes_of rfl rfl rfl rfl) (fun _ _ _ _ h => h)) (an_cons (an_cons an_nil)) (a_cons (e_var (pv 6)) (a_cons (e_var (pv 8)) a_nil)))))
  (ss_cons (s_set (i := 10) (ps_set (i := 10) sc_law.nd rfl (by first | exact Or.inl rfl | exact Or.inr rfl) e_non))
  (ss_cons (s_if (t_cmp (op_neD hr.units) l_ne (e_var (pv 9)) (e_lst a_nil) (nomark _)) (ss_cons (s_set (i := 11) (ps_set (i := 11) sc_law.nd rfl (by first | exact Or.inl rfl | exact Or.inr rfl) (e_callB (cr_minG rfl hr.units) l_minG (by rfl) T.no_min PyProof.Rows.boot_min (a_cons (e_comp (own := [("cell", 12), ("number", 13)]) rfl sc_law.nd (blkOk_by (N := sN_law) (sc := defScope s_law) (by decide +kernel)) (lg_tup (lgs_cons (lg_name (i := 12)) (lgs_cons (lg_name (i := 13)) lgs_nil))) (by decide) (i_items rfl (e_var (pv 9))) (fun _ _ _ _ _ => (pg_tup rfl (pgs_cons (pg_name (i := 12) sc_law.nd rfl (by first | exact Or.inl rfl | exact Or.inr rfl)) (pgs_cons (pg_name (i := 13) sc_law.nd rfl (by first | exact Or.inl rfl | exact Or.inr rfl)) pgs_nil)))) (fun _ _ _ _ _ => c_none) (fun _ _ _ _ _ => (e_var (pv 13)))) a_nil))))
  (ss_one (s_set (i := 10) (ps_set (i := 10) sc_law.nd rfl (by first | exact Or.inl rfl | exact Or.inr rfl) (e_tup (a_cons (e_var (pv 11)) (a_cons (e_comp (own := [("cell", 12), ("number", 13)]) rfl sc_law.nd (blkOk_by (N := sN_law) (sc := defScope s_law) (by decide +kernel)) (lg_tup (lgs_cons (lg_name (i := 12)) (lgs_cons (lg_name (i := 13)) lgs_nil))) (by decide) (i_items rfl (e_var (pv 9))) (fun _ _ _ _ _ => (pg_tup rfl (pgs_cons (pg_name (i := 12) sc_law.nd rfl (by first | exact Or.inl rfl | exact Or.inr rfl)) (pgs_cons (pg_name (i := 13) sc_law.nd rfl (by first | exact Or.inl rfl | exact Or.inr rfl)) pgs_nil)))) (fun _ _ _ _ _ => (c_some (t_cmp (op_eqD hr.units) l_eq (e_var (pv 13)) (e_var (pv 11)) (nomark _)))) (fun _ _ _ _ _ => (e_var (pv 12)))) a_nil))))))) ss_nil)
  (ss_cons (s_set (i := 14) (ps_set (i := 14) sc_law.nd rfl (by first | exact Or.inl rfl | exact Or.inr rfl) (e_lst (a_cons (e_callTy (c_listA rfl) l_listA (by rfl) T.no_list PyProof.Rows.boot_list (a_cons (e_var (pv 6)) a_nil)) (a_cons (e_callTy (c_listA rfl) l_listA (by rfl) T.no_list PyProof.Rows.boot_list (a_cons (e_var (pv 8)) a_nil)) a_nil)))))
  (ss_cons (s_for (passes_of rfl) rfl (lg_name (i := 15)) (i_range1 (by rfl) T.no_range (a_cons e_int a_nil)) (pg_name (i := 15) sc_law.nd rfl (by first | exact Or.inl rfl | exact Or.inr rfl)) (ss_fresh (i := 16) (an_cons (an_cons an_nil)) (ps_set (i := 16) sc_law.nd rfl (by first | exact Or.inl rfl | exact Or.inr rfl) (pe_callKD k_nearest_cells (hr.mono (by decide)) (passes_call (takes_of rfl rfl rfl rfl) (fun _ _ _ _ h => h)) (a_cons (e_ix ix_seq l_ix (e_var (pv 14)) e_int) (a_cons (e_ix ix_seq l_ix (e_var (pv 14)) e_int) a_nil)))) (t_cmp (op_neZ hr.units) l_neZ (e_callB (call_reprA hg (u70 hr)) l_reprA (by rfl) T.no_repr PyProof.Rows.boot_repr (a_cons (e_var (pv 16)) a_nil)) (e_callB (call_reprA hg (u70 hr)) l_reprA (by rfl) T.no_repr PyProof.Rows.boot_repr (a_cons (e_var (pv 10)) a_nil)) (nomark _)) (s_ret (ps_ret e_bl)) (t_cmp o_isnt l_isnt (e_var (pv 16)) e_non (nomark _)) (ps_expr (pe_bm PySem.F.plainAttrs_list PySem.F.slot_list_append PySem.F.type_list_append mt_append (pe_ix ix_seq (pv 16) pe_int (by intro _ _; rfl)) (a_cons (e_tup (a_cons e_int (a_cons e_int a_nil))) a_nil)))))
  (ss_cons (s_if (t_not (t_truth (e_callKio k__law_cells_right (hr.mono (by decide)) (passes_call (takes_of rfl rfl rfl rfl) (fun _ _ _ _ h => h)) (fun ds g g' h => congrArg Nat.succ ((an_cons (an_cons (an_cons an_nil))) ds g g' h)) (pv 2) (a_cons (e_var (pv 14)) (a_cons (e_callKio k__law_some (hr.mono (by decide)) (passes_call (takes_of rfl rfl rfl rfl) (fun _ _ _ _ h => h)) (fun ds g g' h => congrArg Nat.succ ((an_cons (an_cons an_nil)) ds g g' h)) (pv 2) (a_cons (e_var (pv 9)) (a_cons (e_var (pv 3)) a_nil))) (a_cons (e_comp (own := [("cell", 12), ("number", 13)]) rfl sc_law.nd (blkOk_by (N := sN_law) (sc := defScope s_law) (by decide +kernel)) (lg_tup (lgs_cons (lg_name (i := 12)) (lgs_cons (lg_name (i := 13)) lgs_nil))) (by decide) (i_items rfl (e_var (pv 9))) (fun _ _ _ _ _ => (pg_tup rfl (pgs_cons (pg_name (i := 12) sc_law.nd rfl (by first | exact Or.inl rfl | exact Or.inr rfl)) (pgs_cons (pg_name (i := 13) sc_law.nd rfl (by first | exact Or.inl rfl | exact Or.inr rfl)) pgs_nil)))) (fun _ _ _ _ _ => c_none) (fun _ _ _ _ _ => (e_var (pv 12)))) a_nil)))))) (ss_one (s_ret (ps_ret e_bl))) ss_nil)
  (ss_cons (s_set (i := 17) (ps_set (i := 17) sc_law.nd rfl (by first | exact Or.inl rfl | exact Or.inr rfl) (e_op o_mulX l_mulX (e_callB c_len l_len (by rfl) T.no_len PySem.boot_len (a_cons (e_var (pv 8)) a_nil)) (e_callB c_len l_len (by rfl) T.no_len PySem.boot_len (a_cons (e_ix ix_seq l_ix (e_var (pv 8)) e_int) a_nil)))))
  (ss_one (s_if (PW.pt (w_or (t_not (t_truth (e_callKGio k__law_near_right hg (hr.mono (by decide)) (passes_call (takes_of rfl rfl rfl rfl) (fun _ _ _ _ h => h)) (fun ds g g' h => congrArg Nat.succ ((an_cons (an_cons (an_cons (an_cons an_nil)))) ds g g' h)) (pv 2) (a_cons (e_var (pv 14)) (a_cons (e_var (pv 9)) (a_cons (e_var (pv 17)) (a_cons (e_ix ix_seq l_ix (e_lst (a_cons e_int (a_cons e_int a_nil))) (e_var (pv 3))) a_nil))))))) (w_or1 (t_cmp (op_neD hr.units) l_ne (e_var (pv 14)) (e_lst (a_cons (e_var (pv 6)) (a_cons (e_var (pv 8)) a_nil))) (nomark _))))) (ss_one (s_ret (ps_ret e_bl))) ss_nil))))))))))))))))))
  (ss_one (s_ret (ps_ret e_bl))))
theorem all_mk {h : Heap} {fa : Addr} (X : K.In h) (G : h.Ns mainGlobals mg) (hfa : mg "law" = some (.ref fa))
    {f0 : Addr} {od0 an0 : Option Addr} {sl0 : Array (Option Value)} {oc0 kV0 dc0 pm0 cd0 ct0 : Value}
    {f1 : Addr} {od1 an1 : Option Addr} {sl1 : Array (Option Value)} {oc1 kV1 dc1 pm1 cd1 ct1 : Value}
    {f2 : Addr} {od2 an2 : Option Addr} {sl2 : Array (Option Value)} {oc2 kV2 dc2 pm2 cd2 ct2 : Value}
    {f3 : Addr} {od3 an3 : Option Addr} {sl3 : Array (Option Value)} {oc3 kV3 dc3 pm3 cd3 ct3 : Value}
    {f4 : Addr} {od4 an4 : Option Addr} {sl4 : Array (Option Value)} {oc4 kV4 dc4 pm4 cd4 ct4 : Value}
    {f5 : Addr} {od5 an5 : Option Addr} {sl5 : Array (Option Value)} {oc5 kV5 dc5 pm5 cd5 ct5 : Value}
    {f6 : Addr} {od6 an6 : Option Addr} {sl6 : Array (Option Value)} {oc6 kV6 dc6 pm6 cd6 ct6 : Value}
    {f7 : Addr} {od7 an7 : Option Addr} {sl7 : Array (Option Value)} {oc7 kV7 dc7 pm7 cd7 ct7 : Value}
    {f8 : Addr} {od8 an8 : Option Addr} {sl8 : Array (Option Value)} {oc8 kV8 dc8 pm8 cd8 ct8 : Value}
    {f9 : Addr} {od9 an9 : Option Addr} {sl9 : Array (Option Value)} {oc9 kV9 dc9 pm9 cd9 ct9 : Value}
    {f10 : Addr} {od10 an10 : Option Addr} {sl10 : Array (Option Value)} {oc10 kV10 dc10 pm10 cd10 ct10 : Value}
    {f11 : Addr} {od11 an11 : Option Addr} {sl11 : Array (Option Value)} {oc11 kV11 dc11 pm11 cd11 ct11 : Value}
    {f12 : Addr} {od12 an12 : Option Addr} {sl12 : Array (Option Value)} {oc12 kV12 dc12 pm12 cd12 ct12 : Value}
    {f13 : Addr} {od13 an13 : Option Addr} {sl13 : Array (Option Value)} {oc13 kV13 dc13 pm13 cd13 ct13 : Value}
    {f14 : Addr} {od14 an14 : Option Addr} {sl14 : Array (Option Value)} {oc14 kV14 dc14 pm14 cd14 ct14 : Value}
    {f15 : Addr} {od15 an15 : Option Addr} {sl15 : Array (Option Value)} {oc15 kV15 dc15 pm15 cd15 ct15 : Value}
    {f16 : Addr} {od16 an16 : Option Addr} {sl16 : Array (Option Value)} {oc16 kV16 dc16 pm16 cd16 ct16 : Value}
    {f17 : Addr} {od17 an17 : Option Addr} {sl17 : Array (Option Value)} {oc17 kV17 dc17 pm17 cd17 ct17 : Value}
    {f18 : Addr} {od18 an18 : Option Addr} {sl18 : Array (Option Value)} {oc18 kV18 dc18 pm18 cd18 ct18 : Value}
    {f19 : Addr} {od19 an19 : Option Addr} {sl19 : Array (Option Value)} {oc19 kV19 dc19 pm19 cd19 ct19 : Value}
    {f20 : Addr} {od20 an20 : Option Addr} {sl20 : Array (Option Value)} {oc20 kV20 dc20 pm20 cd20 ct20 : Value}
    {f21 : Addr} {od21 an21 : Option Addr} {sl21 : Array (Option Value)} {oc21 kV21 dc21 pm21 cd21 ct21 : Value}
    {f22 : Addr} {od22 an22 : Option Addr} {sl22 : Array (Option Value)} {oc22 kV22 dc22 pm22 cd22 ct22 : Value}
    {f23 : Addr} {od23 an23 : Option Addr} {sl23 : Array (Option Value)} {oc23 kV23 dc23 pm23 cd23 ct23 : Value}
    {f24 : Addr} {od24 an24 : Option Addr} {sl24 : Array (Option Value)} {oc24 kV24 dc24 pm24 cd24 ct24 : Value}
    {f25 : Addr} {od25 an25 : Option Addr} {sl25 : Array (Option Value)} {oc25 kV25 dc25 pm25 cd25 ct25 : Value}
    {f26 : Addr} {od26 an26 : Option Addr} {sl26 : Array (Option Value)} {oc26 kV26 dc26 pm26 cd26 ct26 : Value}
    {f27 : Addr} {od27 an27 : Option Addr} {sl27 : Array (Option Value)} {oc27 kV27 dc27 pm27 cd27 ct27 : Value}
    {f28 : Addr} {od28 an28 : Option Addr} {sl28 : Array (Option Value)} {oc28 kV28 dc28 pm28 cd28 ct28 : Value}
    {c_NoCell : Addr}
    {c_NoNumber : Addr}
    {c_NoPose : Addr}
    {c_NoTable : Addr}
    {c_TableError : Addr}
    {c_TooMany : Addr}
    {t_FREE : Tok}
    (a0 : PySem.W.nsIn K mainGlobals "is_whole" = some (some (.ref f0))) (l0 : K.lookup f0 = some ⟨oc0, od0, .func (PySem.W.fnOf "is_whole" "is_whole" (defArgs s_is_whole) (defBody s_is_whole) (defScope s_is_whole) .none kV0 dc0 pm0 an0 cd0 ct0), sl0⟩) (c0 : PySem.W.codeIn K cd0 "is_whole" = true) (q0 : PySem.W.keepIn K (.ref f0) = true)
    (a1 : PySem.W.nsIn K mainGlobals "_has_even_rows" = some (some (.ref f1))) (l1 : K.lookup f1 = some ⟨oc1, od1, .func (PySem.W.fnOf "_has_even_rows" "_has_even_rows" (defArgs s__has_even_rows) (defBody s__has_even_rows) (defScope s__has_even_rows) .none kV1 dc1 pm1 an1 cd1 ct1), sl1⟩) (c1 : PySem.W.codeIn K cd1 "_has_even_rows" = true) (q1 : PySem.W.keepIn K (.ref f1) = true)
    (a2 : PySem.W.nsIn K mainGlobals "_has_signs_only" = some (some (.ref f2))) (l2 : K.lookup f2 = some ⟨oc2, od2, .func (PySem.W.fnOf "_has_signs_only" "_has_signs_only" (defArgs s__has_signs_only) (defBody s__has_signs_only) (defScope s__has_signs_only) .none kV2 dc2 pm2 an2 cd2 ct2), sl2⟩) (c2 : PySem.W.codeIn K cd2 "_has_signs_only" = true) (q2 : PySem.W.keepIn K (.ref f2) = true)
    (a3 : PySem.W.nsIn K mainGlobals "cells_of_signs" = some (some (.ref f3))) (l3 : K.lookup f3 = some ⟨oc3, od3, .func (PySem.W.fnOf "cells_of_signs" "cells_of_signs" (defArgs s_cells_of_signs) (defBody s_cells_of_signs) (defScope s_cells_of_signs) .none kV3 dc3 pm3 an3 cd3 ct3), sl3⟩) (c3 : PySem.W.codeIn K cd3 "cells_of_signs" = true) (q3 : PySem.W.keepIn K (.ref f3) = true)
    (a4 : PySem.W.nsIn K mainGlobals "cells_to_lie_at" = some (some (.ref f4))) (l4 : K.lookup f4 = some ⟨oc4, od4, .func (PySem.W.fnOf "cells_to_lie_at" "cells_to_lie_at" (defArgs s_cells_to_lie_at) (defBody s_cells_to_lie_at) (defScope s_cells_to_lie_at) .none kV4 dc4 pm4 an4 cd4 ct4), sl4⟩) (c4 : PySem.W.codeIn K cd4 "cells_to_lie_at" = true) (q4 : PySem.W.keepIn K (.ref f4) = true)
    (a5 : PySem.W.nsIn K mainGlobals "lies_wholly" = some (some (.ref f5))) (l5 : K.lookup f5 = some ⟨oc5, od5, .func (PySem.W.fnOf "lies_wholly" "lies_wholly" (defArgs s_lies_wholly) (defBody s_lies_wholly) (defScope s_lies_wholly) .none kV5 dc5 pm5 an5 cd5 ct5), sl5⟩) (c5 : PySem.W.codeIn K cd5 "lies_wholly" = true) (q5 : PySem.W.keepIn K (.ref f5) = true)
    (a6 : PySem.W.nsIn K mainGlobals "_how_many_unlike" = some (some (.ref f6))) (l6 : K.lookup f6 = some ⟨oc6, od6, .func (PySem.W.fnOf "_how_many_unlike" "_how_many_unlike" (defArgs s__how_many_unlike) (defBody s__how_many_unlike) (defScope s__how_many_unlike) .none kV6 dc6 pm6 an6 cd6 ct6), sl6⟩) (c6 : PySem.W.codeIn K cd6 "_how_many_unlike" = true) (q6 : PySem.W.keepIn K (.ref f6) = true)
    (a7 : PySem.W.nsIn K mainGlobals "_law_pool" = some (some (.ref f7))) (l7 : K.lookup f7 = some ⟨oc7, od7, .func (PySem.W.fnOf "_law_pool" "_law_pool" (defArgs s__law_pool) (defBody s__law_pool) (defScope s__law_pool) .none kV7 dc7 pm7 an7 cd7 ct7), sl7⟩) (c7 : PySem.W.codeIn K cd7 "_law_pool" = true) (q7 : PySem.W.keepIn K (.ref f7) = true)
    (a8 : PySem.W.nsIn K mainGlobals "_law_draw" = some (some (.ref f8))) (l8 : K.lookup f8 = some ⟨oc8, od8, .func (PySem.W.fnOf "_law_draw" "_law_draw" (defArgs s__law_draw) (defBody s__law_draw) (defScope s__law_draw) .none kV8 dc8 pm8 an8 cd8 ct8), sl8⟩) (c8 : PySem.W.codeIn K cd8 "_law_draw" = true) (q8 : PySem.W.keepIn K (.ref f8) = true)
    (a9 : PySem.W.nsIn K mainGlobals "_law_numbers" = some (some (.ref f9))) (l9 : K.lookup f9 = some ⟨oc9, od9, .func (PySem.W.fnOf "_law_numbers" "_law_numbers" (defArgs s__law_numbers) (defBody s__law_numbers) (defScope s__law_numbers) .none kV9 dc9 pm9 an9 cd9 ct9), sl9⟩) (c9 : PySem.W.codeIn K cd9 "_law_numbers" = true) (q9 : PySem.W.keepIn K (.ref f9) = true)
    (a10 : PySem.W.nsIn K mainGlobals "is_count" = some (some (.ref f10))) (l10 : K.lookup f10 = some ⟨oc10, od10, .func (PySem.W.fnOf "is_count" "is_count" (defArgs s_is_count) (defBody s_is_count) (defScope s_is_count) .none kV10 dc10 pm10 an10 cd10 ct10), sl10⟩) (c10 : PySem.W.codeIn K cd10 "is_count" = true) (q10 : PySem.W.keepIn K (.ref f10) = true)
    (a11 : PySem.W.nsIn K mainGlobals "is_little" = some (some (.ref f11))) (l11 : K.lookup f11 = some ⟨oc11, od11, .func (PySem.W.fnOf "is_little" "is_little" (defArgs s_is_little) (defBody s_is_little) (defScope s_is_little) .none kV11 dc11 pm11 an11 cd11 ct11), sl11⟩) (c11 : PySem.W.codeIn K cd11 "is_little" = true) (q11 : PySem.W.keepIn K (.ref f11) = true)
    (a12 : PySem.W.nsIn K mainGlobals "_law_signs" = some (some (.ref f12))) (l12 : K.lookup f12 = some ⟨oc12, od12, .func (PySem.W.fnOf "_law_signs" "_law_signs" (defArgs s__law_signs) (defBody s__law_signs) (defScope s__law_signs) .none kV12 dc12 pm12 an12 cd12 ct12), sl12⟩) (c12 : PySem.W.codeIn K cd12 "_law_signs" = true) (q12 : PySem.W.keepIn K (.ref f12) = true)
    (a13 : PySem.W.nsIn K mainGlobals "_law_row" = some (some (.ref f13))) (l13 : K.lookup f13 = some ⟨oc13, od13, .func (PySem.W.fnOf "_law_row" "_law_row" (defArgs s__law_row) (defBody s__law_row) (defScope s__law_row) .none kV13 dc13 pm13 an13 cd13 ct13), sl13⟩) (c13 : PySem.W.codeIn K cd13 "_law_row" = true) (q13 : PySem.W.keepIn K (.ref f13) = true)
    (a14 : PySem.W.nsIn K mainGlobals "_law_some" = some (some (.ref f14))) (l14 : K.lookup f14 = some ⟨oc14, od14, .func (PySem.W.fnOf "_law_some" "_law_some" (defArgs s__law_some) (defBody s__law_some) (defScope s__law_some) .none kV14 dc14 pm14 an14 cd14 ct14), sl14⟩) (c14 : PySem.W.codeIn K cd14 "_law_some" = true) (q14 : PySem.W.keepIn K (.ref f14) = true)
    (a15 : PySem.W.nsIn K mainGlobals "is_cell" = some (some (.ref f15))) (l15 : K.lookup f15 = some ⟨oc15, od15, .func (PySem.W.fnOf "is_cell" "is_cell" (defArgs s_is_cell) (defBody s_is_cell) (defScope s_is_cell) .none kV15 dc15 pm15 an15 cd15 ct15), sl15⟩) (c15 : PySem.W.codeIn K cd15 "is_cell" = true) (q15 : PySem.W.keepIn K (.ref f15) = true)
    (a16 : PySem.W.nsIn K mainGlobals "is_table" = some (some (.ref f16))) (l16 : K.lookup f16 = some ⟨oc16, od16, .func (PySem.W.fnOf "is_table" "is_table" (defArgs s_is_table) (defBody s_is_table) (defScope s_is_table) .none kV16 dc16 pm16 an16 cd16 ct16), sl16⟩) (c16 : PySem.W.codeIn K cd16 "is_table" = true) (q16 : PySem.W.keepIn K (.ref f16) = true)
    (a17 : PySem.W.nsIn K mainGlobals "check_little" = some (some (.ref f17))) (l17 : K.lookup f17 = some ⟨oc17, od17, .func (PySem.W.fnOf "check_little" "check_little" (defArgs s_check_little) (defBody s_check_little) (defScope s_check_little) .none kV17 dc17 pm17 an17 cd17 ct17), sl17⟩) (c17 : PySem.W.codeIn K cd17 "check_little" = true) (q17 : PySem.W.keepIn K (.ref f17) = true)
    (a18 : PySem.W.nsIn K mainGlobals "_law_great" = some (some (.ref f18))) (l18 : K.lookup f18 = some ⟨oc18, od18, .func (PySem.W.fnOf "_law_great" "_law_great" (defArgs s__law_great) (defBody s__law_great) (defScope s__law_great) .none kV18 dc18 pm18 an18 cd18 ct18), sl18⟩) (c18 : PySem.W.codeIn K cd18 "_law_great" = true) (q18 : PySem.W.keepIn K (.ref f18) = true)
    (a19 : PySem.W.nsIn K mainGlobals "_law_little" = some (some (.ref f19))) (l19 : K.lookup f19 = some ⟨oc19, od19, .func (PySem.W.fnOf "_law_little" "_law_little" (defArgs s__law_little) (defBody s__law_little) (defScope s__law_little) .none kV19 dc19 pm19 an19 cd19 ct19), sl19⟩) (c19 : PySem.W.codeIn K cd19 "_law_little" = true) (q19 : PySem.W.keepIn K (.ref f19) = true)
    (a20 : PySem.W.nsIn K mainGlobals "check_table" = some (some (.ref f20))) (l20 : K.lookup f20 = some ⟨oc20, od20, .func (PySem.W.fnOf "check_table" "check_table" (defArgs s_check_table) (defBody s_check_table) (defScope s_check_table) .none kV20 dc20 pm20 an20 cd20 ct20), sl20⟩) (c20 : PySem.W.codeIn K cd20 "check_table" = true) (q20 : PySem.W.keepIn K (.ref f20) = true)
    (a21 : PySem.W.nsIn K mainGlobals "check_both" = some (some (.ref f21))) (l21 : K.lookup f21 = some ⟨oc21, od21, .func (PySem.W.fnOf "check_both" "check_both" (defArgs s_check_both) (defBody s_check_both) (defScope s_check_both) .none kV21 dc21 pm21 an21 cd21 ct21), sl21⟩) (c21 : PySem.W.codeIn K cd21 "check_both" = true) (q21 : PySem.W.keepIn K (.ref f21) = true)
    (a22 : PySem.W.nsIn K mainGlobals "unlike_at" = some (some (.ref f22))) (l22 : K.lookup f22 = some ⟨oc22, od22, .func (PySem.W.fnOf "unlike_at" "unlike_at" (defArgs s_unlike_at) (defBody s_unlike_at) (defScope s_unlike_at) .none kV22 dc22 pm22 an22 cd22 ct22), sl22⟩) (c22 : PySem.W.codeIn K cd22 "unlike_at" = true) (q22 : PySem.W.keepIn K (.ref f22) = true)
    (a23 : PySem.W.nsIn K mainGlobals "nearest_cells" = some (some (.ref f23))) (l23 : K.lookup f23 = some ⟨oc23, od23, .func (PySem.W.fnOf "nearest_cells" "nearest_cells" (defArgs s_nearest_cells) (defBody s_nearest_cells) (defScope s_nearest_cells) .none kV23 dc23 pm23 an23 cd23 ct23), sl23⟩) (c23 : PySem.W.codeIn K cd23 "nearest_cells" = true) (q23 : PySem.W.keepIn K (.ref f23) = true)
    (a24 : PySem.W.nsIn K mainGlobals "near_cells" = some (some (.ref f24))) (l24 : K.lookup f24 = some ⟨oc24, od24, .func (PySem.W.fnOf "near_cells" "near_cells" (defArgs s_near_cells) (defBody s_near_cells) (defScope s_near_cells) .none kV24 dc24 pm24 an24 cd24 ct24), sl24⟩) (c24 : PySem.W.codeIn K cd24 "near_cells" = true) (q24 : PySem.W.keepIn K (.ref f24) = true)
    (a25 : PySem.W.nsIn K mainGlobals "_law_refused" = some (some (.ref f25))) (l25 : K.lookup f25 = some ⟨oc25, od25, .func (PySem.W.fnOf "_law_refused" "_law_refused" (defArgs s__law_refused) (defBody s__law_refused) (defScope s__law_refused) .none kV25 dc25 pm25 an25 cd25 ct25), sl25⟩) (c25 : PySem.W.codeIn K cd25 "_law_refused" = true) (q25 : PySem.W.keepIn K (.ref f25) = true)
    (a26 : PySem.W.nsIn K mainGlobals "_law_near_right" = some (some (.ref f26))) (l26 : K.lookup f26 = some ⟨oc26, od26, .func (PySem.W.fnOf "_law_near_right" "_law_near_right" (defArgs s__law_near_right) (defBody s__law_near_right) (defScope s__law_near_right) .none kV26 dc26 pm26 an26 cd26 ct26), sl26⟩) (c26 : PySem.W.codeIn K cd26 "_law_near_right" = true) (q26 : PySem.W.keepIn K (.ref f26) = true)
    (a27 : PySem.W.nsIn K mainGlobals "_law_cells_right" = some (some (.ref f27))) (l27 : K.lookup f27 = some ⟨oc27, od27, .func (PySem.W.fnOf "_law_cells_right" "_law_cells_right" (defArgs s__law_cells_right) (defBody s__law_cells_right) (defScope s__law_cells_right) .none kV27 dc27 pm27 an27 cd27 ct27), sl27⟩) (c27 : PySem.W.codeIn K cd27 "_law_cells_right" = true) (q27 : PySem.W.keepIn K (.ref f27) = true)
    (a28 : PySem.W.nsIn K mainGlobals "law" = some (some (.ref f28))) (l28 : K.lookup f28 = some ⟨oc28, od28, .func (PySem.W.fnOf "law" "law" (defArgs s_law) (defBody s_law) (defScope s_law) .none kV28 dc28 pm28 an28 cd28 ct28), sl28⟩) (c28 : PySem.W.codeIn K cd28 "law" = true) (q28 : PySem.W.keepIn K (.ref f28) = true)
    (z_ValueError : PySem.W.nsIn K mainGlobals "ValueError" = some none)
    (z_all : PySem.W.nsIn K mainGlobals "all" = some none)
    (z_bool : PySem.W.nsIn K mainGlobals "bool" = some none)
    (z_enumerate : PySem.W.nsIn K mainGlobals "enumerate" = some none)
    (z_int : PySem.W.nsIn K mainGlobals "int" = some none)
    (z_isinstance : PySem.W.nsIn K mainGlobals "isinstance" = some none)
    (z_len : PySem.W.nsIn K mainGlobals "len" = some none)
    (z_list : PySem.W.nsIn K mainGlobals "list" = some none)
    (z_max : PySem.W.nsIn K mainGlobals "max" = some none)
    (z_min : PySem.W.nsIn K mainGlobals "min" = some none)
    (z_range : PySem.W.nsIn K mainGlobals "range" = some none)
    (z_repr : PySem.W.nsIn K mainGlobals "repr" = some none)
    (z_str : PySem.W.nsIn K mainGlobals "str" = some none)
    (z_tuple : PySem.W.nsIn K mainGlobals "tuple" = some none)
    (z_type : PySem.W.nsIn K mainGlobals "type" = some none)
    (z_zip : PySem.W.nsIn K mainGlobals "zip" = some none)
    (m_NoCell : PySem.W.nsIn K mainGlobals "NoCell" = some (some (.ref c_NoCell)))
    (xe_NoCell : PySem.W.excIn K c_NoCell [.type "ValueError", .type "Exception", .type "BaseException", .type "object"] "ValueError.__new__" = true)
    (ke_NoCell : PySem.W.keepIn K (.ref c_NoCell) = true)
    (be_NoCell : PySem.W.subIn K (.ref c_NoCell) (.type "BaseException") = some true)
    (te_NoCell : PySem.W.typeIn K (.ref c_NoCell) = some (.type "type"))
    (hd_NoCell : PySem.W.hasDictIn K c_NoCell = true)
    (hg_NoCell : PySem.W.findIn K (.ref c_NoCell) "__getattribute__" = some (some (.builtin "BaseException.__getattribute__")))
    (hk_NoCell : PySem.W.findIn K (.ref c_NoCell) "__getattr__" = some none)
    (ha_NoCell : PySem.W.findIn K (.ref c_NoCell) "__class__" = some (some (.builtin "object.__class__")))
    (hm_NoCell : PySem.W.mroIn K c_NoCell (.type "object") = some true)
    (sv_NoCell : PySem.W.subIn K (.ref c_NoCell) (.type "ValueError") = some true)
    (sf_NoCell : PySem.W.subIn K (.ref c_NoCell) (.ref c_NoCell) = some true)
    (m_NoNumber : PySem.W.nsIn K mainGlobals "NoNumber" = some (some (.ref c_NoNumber)))
    (xe_NoNumber : PySem.W.excIn K c_NoNumber [.type "ValueError", .type "Exception", .type "BaseException", .type "object"] "ValueError.__new__" = true)
    (ke_NoNumber : PySem.W.keepIn K (.ref c_NoNumber) = true)
    (be_NoNumber : PySem.W.subIn K (.ref c_NoNumber) (.type "BaseException") = some true)
    (te_NoNumber : PySem.W.typeIn K (.ref c_NoNumber) = some (.type "type"))
    (hd_NoNumber : PySem.W.hasDictIn K c_NoNumber = true)
    (hg_NoNumber : PySem.W.findIn K (.ref c_NoNumber) "__getattribute__" = some (some (.builtin "BaseException.__getattribute__")))
    (hk_NoNumber : PySem.W.findIn K (.ref c_NoNumber) "__getattr__" = some none)
    (ha_NoNumber : PySem.W.findIn K (.ref c_NoNumber) "__class__" = some (some (.builtin "object.__class__")))
    (hm_NoNumber : PySem.W.mroIn K c_NoNumber (.type "object") = some true)
    (sv_NoNumber : PySem.W.subIn K (.ref c_NoNumber) (.type "ValueError") = some true)
    (sf_NoNumber : PySem.W.subIn K (.ref c_NoNumber) (.ref c_NoNumber) = some true)
    (m_NoPose : PySem.W.nsIn K mainGlobals "NoPose" = some (some (.ref c_NoPose)))
    (te_NoPose : PySem.W.typeIn K (.ref c_NoPose) = some (.type "type"))
    (hd_NoPose : PySem.W.hasDictIn K c_NoPose = true)
    (m_NoTable : PySem.W.nsIn K mainGlobals "NoTable" = some (some (.ref c_NoTable)))
    (xe_NoTable : PySem.W.excIn K c_NoTable [.type "ValueError", .type "Exception", .type "BaseException", .type "object"] "ValueError.__new__" = true)
    (ke_NoTable : PySem.W.keepIn K (.ref c_NoTable) = true)
    (be_NoTable : PySem.W.subIn K (.ref c_NoTable) (.type "BaseException") = some true)
    (te_NoTable : PySem.W.typeIn K (.ref c_NoTable) = some (.type "type"))
    (hd_NoTable : PySem.W.hasDictIn K c_NoTable = true)
    (hg_NoTable : PySem.W.findIn K (.ref c_NoTable) "__getattribute__" = some (some (.builtin "BaseException.__getattribute__")))
    (hk_NoTable : PySem.W.findIn K (.ref c_NoTable) "__getattr__" = some none)
    (ha_NoTable : PySem.W.findIn K (.ref c_NoTable) "__class__" = some (some (.builtin "object.__class__")))
    (hm_NoTable : PySem.W.mroIn K c_NoTable (.type "object") = some true)
    (sv_NoTable : PySem.W.subIn K (.ref c_NoTable) (.type "ValueError") = some true)
    (sf_NoTable : PySem.W.subIn K (.ref c_NoTable) (.ref c_NoTable) = some true)
    (m_TableError : PySem.W.nsIn K mainGlobals "TableError" = some (some (.ref c_TableError)))
    (be_TableError : PySem.W.subIn K (.ref c_TableError) (.type "BaseException") = some true)
    (te_TableError : PySem.W.typeIn K (.ref c_TableError) = some (.type "type"))
    (hd_TableError : PySem.W.hasDictIn K c_TableError = true)
    (m_TooMany : PySem.W.nsIn K mainGlobals "TooMany" = some (some (.ref c_TooMany)))
    (te_TooMany : PySem.W.typeIn K (.ref c_TooMany) = some (.type "type"))
    (hd_TooMany : PySem.W.hasDictIn K c_TooMany = true)
    (hn_ : PySem.W.specialIn K (.builtin "object.__class__") "__get__" = some (some (.builtin "getset_descriptor.__get__")))
    (ht_ : PySem.W.takesIn K (.builtin "object.__class__") = some true)
    (sb_NoCell_NoNumber : PySem.W.subIn K (.ref c_NoCell) (.ref c_NoNumber) = some false)
    (sb_NoCell_NoPose : PySem.W.subIn K (.ref c_NoCell) (.ref c_NoPose) = some false)
    (sb_NoCell_NoTable : PySem.W.subIn K (.ref c_NoCell) (.ref c_NoTable) = some false)
    (sb_NoCell_TableError : PySem.W.subIn K (.ref c_NoCell) (.ref c_TableError) = some true)
    (sb_NoCell_TooMany : PySem.W.subIn K (.ref c_NoCell) (.ref c_TooMany) = some false)
    (sb_NoNumber_NoCell : PySem.W.subIn K (.ref c_NoNumber) (.ref c_NoCell) = some false)
    (sb_NoNumber_NoPose : PySem.W.subIn K (.ref c_NoNumber) (.ref c_NoPose) = some false)
    (sb_NoNumber_NoTable : PySem.W.subIn K (.ref c_NoNumber) (.ref c_NoTable) = some false)
    (sb_NoNumber_TableError : PySem.W.subIn K (.ref c_NoNumber) (.ref c_TableError) = some true)
    (sb_NoNumber_TooMany : PySem.W.subIn K (.ref c_NoNumber) (.ref c_TooMany) = some false)
    (sb_NoTable_NoCell : PySem.W.subIn K (.ref c_NoTable) (.ref c_NoCell) = some false)
    (sb_NoTable_NoNumber : PySem.W.subIn K (.ref c_NoTable) (.ref c_NoNumber) = some false)
    (sb_NoTable_NoPose : PySem.W.subIn K (.ref c_NoTable) (.ref c_NoPose) = some false)
    (sb_NoTable_TableError : PySem.W.subIn K (.ref c_NoTable) (.ref c_TableError) = some true)
    (sb_NoTable_TooMany : PySem.W.subIn K (.ref c_NoTable) (.ref c_TooMany) = some false)
    (m_FREE : PySem.W.nsIn K mainGlobals "FREE" = some (some (.str "?" t_FREE)))
    : ∃ fd : FuncData, (∀ (s : Shared) (u : Value), BindsTo s fd ⟨[u], []⟩ [("script", u)]) ∧ ∀ base : Heap, K.In base → base.Ns mainGlobals mg → FnG P w K mg base (L2.CX P w) 9 fa fd ["script"] (spD K mg 1 18 m_law) := by
  have e := hfa.symm.trans (PySem.W.mg_of X G a28)
  cases e
  have T : Txt K mg t_FREE c_NoCell c_NoNumber c_NoPose c_NoTable c_TableError c_TooMany := ⟨PySem.W.mg_none_of X G z_ValueError, PySem.W.mg_none_of X G z_all, PySem.W.mg_none_of X G z_bool, PySem.W.mg_none_of X G z_enumerate, PySem.W.mg_none_of X G z_int, PySem.W.mg_none_of X G z_isinstance, PySem.W.mg_none_of X G z_len, PySem.W.mg_none_of X G z_list, PySem.W.mg_none_of X G z_max, PySem.W.mg_none_of X G z_min, PySem.W.mg_none_of X G z_range, PySem.W.mg_none_of X G z_repr, PySem.W.mg_none_of X G z_str, PySem.W.mg_none_of X G z_tuple, PySem.W.mg_none_of X G z_type, PySem.W.mg_none_of X G z_zip, PySem.W.mg_of X G m_FREE, PySem.W.mg_of X G m_NoCell, xe_NoCell, ke_NoCell, be_NoCell, te_NoCell, m_NoCell, PySem.W.mg_of X G m_NoNumber, xe_NoNumber, ke_NoNumber, be_NoNumber, te_NoNumber, m_NoNumber, PySem.W.mg_of X G m_NoPose, m_NoPose, PySem.W.mg_of X G m_NoTable, xe_NoTable, ke_NoTable, be_NoTable, te_NoTable, m_NoTable, PySem.W.mg_of X G m_TableError, (mkCatch (ks := [("NoCell", c_NoCell), ("NoNumber", c_NoNumber), ("NoTable", c_NoTable)]) (List.forall_mem_cons.mpr ⟨⟨PySem.W.mg_of X G m_NoCell, m_NoCell, sb_NoCell_TableError⟩, (List.forall_mem_cons.mpr ⟨⟨PySem.W.mg_of X G m_NoNumber, m_NoNumber, sb_NoNumber_TableError⟩, (List.forall_mem_cons.mpr ⟨⟨PySem.W.mg_of X G m_NoTable, m_NoTable, sb_NoTable_TableError⟩, (fun _ z => nomatch z)⟩)⟩)⟩) be_TableError hd_TableError te_TableError), PySem.W.mg_of X G m_TooMany, m_TooMany, (mkCls (ks := [("NoCell", c_NoCell), ("NoNumber", c_NoNumber), ("NoTable", c_NoTable)]) (qs := [("NoCell", c_NoCell), ("NoNumber", c_NoNumber), ("NoPose", c_NoPose), ("NoTable", c_NoTable), ("TooMany", c_TooMany)]) (List.forall_mem_cons.mpr ⟨⟨m_NoCell, ⟨hg_NoCell, hk_NoCell, be_NoCell, hd_NoCell, ha_NoCell, hn_, ht_, hm_NoCell⟩, sv_NoCell, sf_NoCell⟩, (List.forall_mem_cons.mpr ⟨⟨m_NoNumber, ⟨hg_NoNumber, hk_NoNumber, be_NoNumber, hd_NoNumber, ha_NoNumber, hn_, ht_, hm_NoNumber⟩, sv_NoNumber, sf_NoNumber⟩, (List.forall_mem_cons.mpr ⟨⟨m_NoTable, ⟨hg_NoTable, hk_NoTable, be_NoTable, hd_NoTable, ha_NoTable, hn_, ht_, hm_NoTable⟩, sv_NoTable, sf_NoTable⟩, (fun _ z => nomatch z)⟩)⟩)⟩) (List.forall_mem_cons.mpr ⟨⟨m_NoCell, hd_NoCell, te_NoCell⟩, (List.forall_mem_cons.mpr ⟨⟨m_NoNumber, hd_NoNumber, te_NoNumber⟩, (List.forall_mem_cons.mpr ⟨⟨m_NoPose, hd_NoPose, te_NoPose⟩, (List.forall_mem_cons.mpr ⟨⟨m_NoTable, hd_NoTable, te_NoTable⟩, (List.forall_mem_cons.mpr ⟨⟨m_TooMany, hd_TooMany, te_TooMany⟩, (fun _ z => nomatch z)⟩)⟩)⟩)⟩)⟩) (List.forall_mem_cons.mpr ⟨(List.forall_mem_cons.mpr ⟨(sf_NoCell.trans (show some true = some (subN "NoCell" "NoCell") from by decide)), (List.forall_mem_cons.mpr ⟨(sb_NoCell_NoNumber.trans (show some false = some (subN "NoCell" "NoNumber") from by decide)), (List.forall_mem_cons.mpr ⟨(sb_NoCell_NoPose.trans (show some false = some (subN "NoCell" "NoPose") from by decide)), (List.forall_mem_cons.mpr ⟨(sb_NoCell_NoTable.trans (show some false = some (subN "NoCell" "NoTable") from by decide)), (List.forall_mem_cons.mpr ⟨(sb_NoCell_TooMany.trans (show some false = some (subN "NoCell" "TooMany") from by decide)), (fun _ z => nomatch z)⟩)⟩)⟩)⟩)⟩), (List.forall_mem_cons.mpr ⟨(List.forall_mem_cons.mpr ⟨(sb_NoNumber_NoCell.trans (show some false = some (subN "NoNumber" "NoCell") from by decide)), (List.forall_mem_cons.mpr ⟨(sf_NoNumber.trans (show some true = some (subN "NoNumber" "NoNumber") from by decide)), (List.forall_mem_cons.mpr ⟨(sb_NoNumber_NoPose.trans (show some false = some (subN "NoNumber" "NoPose") from by decide)), (List.forall_mem_cons.mpr ⟨(sb_NoNumber_NoTable.trans (show some false = some (subN "NoNumber" "NoTable") from by decide)), (List.forall_mem_cons.mpr ⟨(sb_NoNumber_TooMany.trans (show some false = some (subN "NoNumber" "TooMany") from by decide)), (fun _ z => nomatch z)⟩)⟩)⟩)⟩)⟩), (List.forall_mem_cons.mpr ⟨(List.forall_mem_cons.mpr ⟨(sb_NoTable_NoCell.trans (show some false = some (subN "NoTable" "NoCell") from by decide)), (List.forall_mem_cons.mpr ⟨(sb_NoTable_NoNumber.trans (show some false = some (subN "NoTable" "NoNumber") from by decide)), (List.forall_mem_cons.mpr ⟨(sb_NoTable_NoPose.trans (show some false = some (subN "NoTable" "NoPose") from by decide)), (List.forall_mem_cons.mpr ⟨(sf_NoTable.trans (show some true = some (subN "NoTable" "NoTable") from by decide)), (List.forall_mem_cons.mpr ⟨(sb_NoTable_TooMany.trans (show some false = some (subN "NoTable" "TooMany") from by decide)), (fun _ z => nomatch z)⟩)⟩)⟩)⟩)⟩), (fun _ z => nomatch z)⟩)⟩)⟩))⟩
  refine ⟨PySem.W.fnOf "law" "law" (defArgs s_law) (defBody s_law) (defScope s_law) .none kV28 dc28 pm28 an28 cd28 ct28, fun s u => .of_eq rfl, fun base _ _ => ?_⟩
  have k_is_whole : Kn P w K mg base "is_whole" 1 1 1 m_is_whole := ⟨f0, _, ["thing"], ok_is_whole (fun_mk (st := s_is_whole) l0 c0 q0) T, PySem.W.mg_of X G a0, q0, (fun_mk (st := s_is_whole) l0 c0 q0).binds (ps := ["thing"]) fun _ _ _ _ _ _ us hl => match us, hl with | [_], _ => rfl⟩
  have k__has_even_rows : Kn P w K mg base "_has_even_rows" 1 1 2 m__has_even_rows := ⟨f1, _, ["thing"], ok__has_even_rows (fun_mk (st := s__has_even_rows) l1 c1 q1) T, PySem.W.mg_of X G a1, q1, (fun_mk (st := s__has_even_rows) l1 c1 q1).binds (ps := ["thing"]) fun _ _ _ _ _ _ us hl => match us, hl with | [_], _ => rfl⟩
  have k__has_signs_only : Kn P w K mg base "_has_signs_only" 1 1 2 m__has_signs_only := ⟨f2, _, ["row"], ok__has_signs_only (fun_mk (st := s__has_signs_only) l2 c2 q2) T, PySem.W.mg_of X G a2, q2, (fun_mk (st := s__has_signs_only) l2 c2 q2).binds (ps := ["row"]) fun _ _ _ _ _ _ us hl => match us, hl with | [_], _ => rfl⟩
  have k_cells_of_signs : Kn P w K mg base "cells_of_signs" 1 1 6 m_cells_of_signs := ⟨f3, _, ["little"], ok_cells_of_signs (fun_mk (st := s_cells_of_signs) l3 c3 q3) T, PySem.W.mg_of X G a3, q3, (fun_mk (st := s_cells_of_signs) l3 c3 q3).binds (ps := ["little"]) fun _ _ _ _ _ _ us hl => match us, hl with | [_], _ => rfl⟩
  have k_cells_to_lie_at : Kn P w K mg base "cells_to_lie_at" 1 2 6 m_cells_to_lie_at := ⟨f4, _, ["great", "little"], ok_cells_to_lie_at (fun_mk (st := s_cells_to_lie_at) l4 c4 q4) T, PySem.W.mg_of X G a4, q4, (fun_mk (st := s_cells_to_lie_at) l4 c4 q4).binds (ps := ["great", "little"]) fun _ _ _ _ _ _ us hl => match us, hl with | [_, _], _ => rfl⟩
  have k_lies_wholly : Kn P w K mg base "lies_wholly" 1 3 5 m_lies_wholly := ⟨f5, _, ["great", "little", "cell"], ok_lies_wholly (fun_mk (st := s_lies_wholly) l5 c5 q5) T, PySem.W.mg_of X G a5, q5, (fun_mk (st := s_lies_wholly) l5 c5 q5).binds (ps := ["great", "little", "cell"]) fun _ _ _ _ _ _ us hl => match us, hl with | [_, _, _], _ => rfl⟩
  have k__how_many_unlike : Kn P w K mg base "_how_many_unlike" 1 3 8 m__how_many_unlike := ⟨f6, _, ["great", "signs", "cell"], ok__how_many_unlike (fun_mk (st := s__how_many_unlike) l6 c6 q6) T, PySem.W.mg_of X G a6, q6, (fun_mk (st := s__how_many_unlike) l6 c6 q6).binds (ps := ["great", "signs", "cell"]) fun _ _ _ _ _ _ us hl => match us, hl with | [_, _, _], _ => rfl⟩
  have k__law_pool : Kn P w K mg base "_law_pool" 1 2 3 m__law_pool := ⟨f7, _, ["script", "k"], ok__law_pool (fun_mk (st := s__law_pool) l7 c7 q7) T, PySem.W.mg_of X G a7, q7, (fun_mk (st := s__law_pool) l7 c7 q7).binds (ps := ["script", "k"]) fun _ _ _ _ _ _ us hl => match us, hl with | [_, _], _ => rfl⟩
  have k__law_draw : Kn P w K mg base "_law_draw" 1 2 4 m__law_draw := ⟨f8, _, ["pool", "many"], ok__law_draw (fun_mk (st := s__law_draw) l8 c8 q8) T, PySem.W.mg_of X G a8, q8, (fun_mk (st := s__law_draw) l8 c8 q8).binds (ps := ["pool", "many"]) fun _ _ _ _ _ _ us hl => match us, hl with | [_, _], _ => rfl⟩
  have k__law_numbers : Kn P w K mg base "_law_numbers" 1 2 10 m__law_numbers := ⟨f9, _, ["great", "little"], ok__law_numbers (fun_mk (st := s__law_numbers) l9 c9 q9) T, PySem.W.mg_of X G a9, q9, (fun_mk (st := s__law_numbers) l9 c9 q9).binds (ps := ["great", "little"]) fun _ _ _ _ _ _ us hl => match us, hl with | [_, _], _ => rfl⟩
  have k_is_count : Kn P w K mg base "is_count" 2 1 1 m_is_count := ⟨f10, _, ["thing"], ok_is_count (fun_mk (st := s_is_count) l10 c10 q10) T k_is_whole, PySem.W.mg_of X G a10, q10, (fun_mk (st := s_is_count) l10 c10 q10).binds (ps := ["thing"]) fun _ _ _ _ _ _ us hl => match us, hl with | [_], _ => rfl⟩
  have k_is_little : Kn P w K mg base "is_little" 2 1 2 m_is_little := ⟨f11, _, ["thing"], ok_is_little (fun_mk (st := s_is_little) l11 c11 q11) T k__has_even_rows k__has_signs_only, PySem.W.mg_of X G a11, q11, (fun_mk (st := s_is_little) l11 c11 q11).binds (ps := ["thing"]) fun _ _ _ _ _ _ us hl => match us, hl with | [_], _ => rfl⟩
  have k__law_signs : Kn P w K mg base "_law_signs" 2 2 5 m__law_signs := ⟨f12, _, ["pool", "many"], ok__law_signs (fun_mk (st := s__law_signs) l12 c12 q12) T k__law_draw, PySem.W.mg_of X G a12, q12, (fun_mk (st := s__law_signs) l12 c12 q12).binds (ps := ["pool", "many"]) fun _ _ _ _ _ _ us hl => match us, hl with | [_, _], _ => rfl⟩
  have k__law_row : Kn P w K mg base "_law_row" 2 3 4 m__law_row := ⟨f13, _, ["pool", "signs", "columns"], ok__law_row (fun_mk (st := s__law_row) l13 c13 q13) T k__law_draw, PySem.W.mg_of X G a13, q13, (fun_mk (st := s__law_row) l13 c13 q13).binds (ps := ["pool", "signs", "columns"]) fun _ _ _ _ _ _ us hl => match us, hl with | [_, _, _], _ => rfl⟩
  have k__law_some : Kn P w K mg base "_law_some" 2 3 5 m__law_some := ⟨f14, _, ["pool", "numbers", "far"], ok__law_some (fun_mk (st := s__law_some) l14 c14 q14) T k__law_draw, PySem.W.mg_of X G a14, q14, (fun_mk (st := s__law_some) l14 c14 q14).binds (ps := ["pool", "numbers", "far"]) fun _ _ _ _ _ _ us hl => match us, hl with | [_, _, _], _ => rfl⟩
  have k_is_cell : Kn P w K mg base "is_cell" 3 1 1 m_is_cell := ⟨f15, _, ["thing"], ok_is_cell (fun_mk (st := s_is_cell) l15 c15 q15) T k_is_count, PySem.W.mg_of X G a15, q15, (fun_mk (st := s_is_cell) l15 c15 q15).binds (ps := ["thing"]) fun _ _ _ _ _ _ us hl => match us, hl with | [_], _ => rfl⟩
  have k_is_table : Kn P w K mg base "is_table" 3 1 2 m_is_table := ⟨f16, _, ["thing"], ok_is_table (fun_mk (st := s_is_table) l16 c16 q16) T k_is_little, PySem.W.mg_of X G a16, q16, (fun_mk (st := s_is_table) l16 c16 q16).binds (ps := ["thing"]) fun _ _ _ _ _ _ us hl => match us, hl with | [_], _ => rfl⟩
  have k_check_little : Kn P w K mg base "check_little" 3 1 1 m_check_little := ⟨f17, _, ["thing"], ok_check_little (fun_mk (st := s_check_little) l17 c17 q17) T k_is_little, PySem.W.mg_of X G a17, q17, (fun_mk (st := s_check_little) l17 c17 q17).binds (ps := ["thing"]) fun _ _ _ _ _ _ us hl => match us, hl with | [_], _ => rfl⟩
  have k__law_great : Kn P w K mg base "_law_great" 3 3 10 m__law_great := ⟨f18, _, ["pool", "rows", "columns"], ok__law_great (fun_mk (st := s__law_great) l18 c18 q18) T k__law_draw k__law_row k__law_signs, PySem.W.mg_of X G a18, q18, (fun_mk (st := s__law_great) l18 c18 q18).binds (ps := ["pool", "rows", "columns"]) fun _ _ _ _ _ _ us hl => match us, hl with | [_, _, _], _ => rfl⟩
  have k__law_little : Kn P w K mg base "_law_little" 3 4 13 m__law_little := ⟨f19, _, ["pool", "great", "rows", "columns"], ok__law_little (fun_mk (st := s__law_little) l19 c19 q19) T k__law_draw k__law_signs, PySem.W.mg_of X G a19, q19, (fun_mk (st := s__law_little) l19 c19 q19).binds (ps := ["pool", "great", "rows", "columns"]) fun _ _ _ _ _ _ us hl => match us, hl with | [_, _, _, _], _ => rfl⟩
  have k_check_table : Kn P w K mg base "check_table" 4 1 1 m_check_table := ⟨f20, _, ["thing"], ok_check_table (fun_mk (st := s_check_table) l20 c20 q20) T k_is_table, PySem.W.mg_of X G a20, q20, (fun_mk (st := s_check_table) l20 c20 q20).binds (ps := ["thing"]) fun _ _ _ _ _ _ us hl => match us, hl with | [_], _ => rfl⟩
  have k_check_both : Kn P w K mg base "check_both" 5 2 2 m_check_both := ⟨f21, _, ["great", "little"], ok_check_both (fun_mk (st := s_check_both) l21 c21 q21) T k_check_little k_check_table, PySem.W.mg_of X G a21, q21, (fun_mk (st := s_check_both) l21 c21 q21).binds (ps := ["great", "little"]) fun _ _ _ _ _ _ us hl => match us, hl with | [_, _], _ => rfl⟩
  have k_unlike_at : Kn P w K mg base "unlike_at" 6 3 3 m_unlike_at := ⟨f22, _, ["great", "little", "cell"], ok_unlike_at (fun_mk (st := s_unlike_at) l22 c22 q22) T k__how_many_unlike k_cells_of_signs k_check_both k_is_cell k_lies_wholly, PySem.W.mg_of X G a22, q22, (fun_mk (st := s_unlike_at) l22 c22 q22).binds (ps := ["great", "little", "cell"]) fun _ _ _ _ _ _ us hl => match us, hl with | [_, _, _], _ => rfl⟩
  have k_nearest_cells : Kn P w K mg base "nearest_cells" 6 2 8 m_nearest_cells := ⟨f23, _, ["great", "little"], ok_nearest_cells (fun_mk (st := s_nearest_cells) l23 c23 q23) T k__how_many_unlike k_cells_of_signs k_cells_to_lie_at k_check_both, PySem.W.mg_of X G a23, q23, (fun_mk (st := s_nearest_cells) l23 c23 q23).binds (ps := ["great", "little"]) fun _ _ _ _ _ _ us hl => match us, hl with | [_, _], _ => rfl⟩
  have k_near_cells : Kn P w K mg base "near_cells" 6 3 6 m_near_cells := ⟨f24, _, ["great", "little", "k"], ok_near_cells (fun_mk (st := s_near_cells) l24 c24 q24) T k__how_many_unlike k_cells_of_signs k_cells_to_lie_at k_check_both k_is_count, PySem.W.mg_of X G a24, q24, (fun_mk (st := s_near_cells) l24 c24 q24).binds (ps := ["great", "little", "k"]) fun _ _ _ _ _ _ us hl => match us, hl with | [_, _, _], _ => rfl⟩
  have k__law_refused : Kn P w K mg base "_law_refused" 7 4 6 m__law_refused := ⟨f25, _, ["way", "great", "little", "thing"], ok__law_refused (fun_mk (st := s__law_refused) l25 c25 q25) T k_near_cells k_unlike_at, PySem.W.mg_of X G a25, q25, (fun_mk (st := s__law_refused) l25 c25 q25).binds (ps := ["way", "great", "little", "thing"]) fun _ _ _ _ _ _ us hl => match us, hl with | [_, _, _, _], _ => rfl⟩
  have k__law_near_right : KnG P w K mg base "_law_near_right" 8 5 13 m__law_near_right := ⟨f26, _, ["pool", "handed", "numbers", "most", "few"], ok__law_near_right (fun_mk (st := s__law_near_right) l26 c26 q26) T k__law_draw k__law_refused k_near_cells, PySem.W.mg_of X G a26, q26, (fun_mk (st := s__law_near_right) l26 c26 q26).binds (ps := ["pool", "handed", "numbers", "most", "few"]) fun _ _ _ _ _ _ us hl => match us, hl with | [_, _, _, _, _], _ => rfl⟩
  have k__law_cells_right : Kn P w K mg base "_law_cells_right" 8 4 11 m__law_cells_right := ⟨f27, _, ["pool", "handed", "some", "cells"], ok__law_cells_right (fun_mk (st := s__law_cells_right) l27 c27 q27) T k__law_draw k__law_refused k_unlike_at, PySem.W.mg_of X G a27, q27, (fun_mk (st := s__law_cells_right) l27 c27 q27).binds (ps := ["pool", "handed", "some", "cells"]) fun _ _ _ _ _ _ us hl => match us, hl with | [_, _, _, _], _ => rfl⟩
  exact ok_law (fun_mk (st := s_law) l28 c28 q28) T k__law_cells_right k__law_draw k__law_great k__law_little k__law_near_right k__law_numbers k__law_pool k__law_some k_nearest_cells
end
end K26
set_option Elab.async false
set_option linter.all false
set_option maxRecDepth 100000
set_option maxHeartbeats 4000000
namespace TL
open PySem PySem.Spec PyProof.Rows L2
section
variable {P : Bool → D → Prop} {x y : Str} {i j : Int} {b c : Bool}
theorem wo_mk {o : Option (Bool × D)} {n : Bool} {z : D} (e : o = some (n, z)) (p : P n z) : WO o P := ⟨n, z, e, p⟩
theorem wo_mul (h : CMul i j) (p : P false (.int (i * j))) : WO (mulX (.int i) (.int j)) P := ⟨_, _, if_pos h, p⟩
theorem wo_fdiv (h : 0 < j ∧ j < 1073741824) (p : P false (.int (i / j))) : WO (fdivD (.int i) (.int j)) P := ⟨_, _, if_pos h, p⟩
theorem wo_mod (h : 0 < j) (p : P false (.int (i % j))) : WO (modD (.int i) (.int j)) P := ⟨_, _, if_pos h, p⟩
theorem eqv_int : PyData.eqv (.int i) (.int j) = decide (i = j) := by
  rw [PyData.eqv]
  by_cases h : i = j <;> simp [h]
theorem eqv_str : PyData.eqv (.str x) (.str y) = decide (x = y) := by
  rw [PyData.eqv]
  by_cases h : x = y <;> simp [h]
theorem eqv_bl : PyData.eqv (.bool b) (.bool c) = decide (b = c) := by
  rw [PyData.eqv]
  cases b <;> cases c <;> rfl
theorem eqB_of2 {d e : D} {p q : PyData} (h1 : py d = some p) (h2 : py e = some q) (s1 : SeqAt.shaped p = true) (s2 : SeqAt.shaped q = true) : eqB d e = some (PyData.eqv p q) := by
  unfold eqB
  rw [h1, h2]
  simp only [s1, s2, and_self, if_true]
theorem eqD_of {d e : D} {b : Bool} (h : eqB d e = some b) : eqD d e = some (false, .bl b) := by unfold eqD; rw [h]
theorem neD_of {d e : D} {b : Bool} (h : eqB d e = some b) : neD d e = some (false, .bl (!b)) := by unfold neD; rw [h]
theorem shaped_int : SeqAt.shaped (.int i) = true := by unfold SeqAt.shaped; rw [PyData.canLay0, PyData.depth]; rfl
theorem shaped_bl : SeqAt.shaped (.bool b) = true := by unfold SeqAt.shaped; rw [PyData.canLay0, PyData.depth]; rfl
theorem shaped_str (h : PyData.strOk x = true) : SeqAt.shaped (.str x) = true := by unfold SeqAt.shaped; rw [PyData.canLay0, PyData.depth, h]; rfl
theorem eqB_int : eqB (.int i) (.int j) = some (decide (i = j)) := by rw [eqB_of2 rfl rfl shaped_int shaped_int, eqv_int]
theorem eqB_bl : eqB (.bl b) (.bl c) = some (decide (b = c)) := by rw [eqB_of2 rfl rfl shaped_bl shaped_bl, eqv_bl]
theorem eqB_str (h1 : PyData.strOk x = true) (h2 : PyData.strOk y = true) : eqB (.str x) (.str y) = some (decide (x = y)) := by rw [eqB_of2 rfl rfl (shaped_str h1) (shaped_str h2), eqv_str]
/-- a list of texts -/
abbrev lstS (xs : List Str) : D := .lst (xs.map .str)
def okL (xs : List Str) : Prop := ∀ x ∈ xs, PyData.strOk x = true
theorem pyL_strs : ∀ xs : List Str, pyL (xs.map .str) = some (xs.map .str)
  | [] => rfl
  | x :: xs => by simp only [List.map_cons, pyL, py, pyL_strs xs]
theorem py_lstS (xs : List Str) : py (lstS xs) = some (.list (xs.map .str)) := by simp only [py, pyL_strs]
theorem shaped_strs {xs : List Str} (h : okL xs) : SeqAt.shaped (.list (xs.map .str)) = true := by
  have h1 : PyData.canLayAll0 (xs.map .str) = true ∧ PyData.depthAll (xs.map .str) = 0 := by
    induction xs with
    | nil => exact ⟨by rw [List.map_nil, PyData.canLayAll0], by rw [List.map_nil, PyData.depthAll]⟩
    | cons x xs ih =>
      obtain ⟨i1, i2⟩ := ih fun y hy => h y (List.mem_cons_of_mem _ hy)
      refine ⟨?_, ?_⟩
      · rw [List.map_cons, PyData.canLayAll0, PyData.canLay0, h x (List.mem_cons_self ..), i1]; rfl
      · rw [List.map_cons, PyData.depthAll, PyData.depth, i2]; rfl
  unfold SeqAt.shaped
  rw [PyData.canLay0, PyData.depth, h1.1, h1.2]
  rfl
theorem eqvAll_strs : ∀ xs ys : List Str, PyData.eqvAll (xs.map .str) (ys.map .str) = decide (xs = ys)
  | [], [] => by simp [PyData.eqvAll]
  | [], y :: ys => by simp [PyData.eqvAll]
  | x :: xs, [] => by simp [PyData.eqvAll]
  | x :: xs, y :: ys => by
    rw [List.map_cons, List.map_cons, PyData.eqvAll, eqvAll_strs xs ys, eqv_str]
    by_cases h : x = y <;> simp [h]
theorem wo_eq {d e : D} {b : Bool} (h : eqB d e = some b) (p : P false (.bl b)) : WO (eqD d e) P := ⟨_, _, eqD_of h, p⟩
theorem wo_ne {d e : D} {b : Bool} (h : eqB d e = some b) (p : P false (.bl (!b))) : WO (neD d e) P := ⟨_, _, neD_of h, p⟩
theorem wo_eqI (p : P false (.bl (decide (i = j)))) : WO (eqD (.int i) (.int j)) P := wo_eq eqB_int p
theorem wo_neI (p : P false (.bl (!decide (i = j)))) : WO (neD (.int i) (.int j)) P := wo_ne eqB_int p
theorem wo_eqB (p : P false (.bl (decide (b = c)))) : WO (eqD (.bl b) (.bl c)) P := wo_eq eqB_bl p
theorem wo_neB (p : P false (.bl (!decide (b = c)))) : WO (neD (.bl b) (.bl c)) P := wo_ne eqB_bl p
theorem wo_neS (h1 : PyData.strOk x = true) (h2 : PyData.strOk y = true) (p : P false (.bl (!decide (x = y)))) : WO (neD (.str x) (.str y)) P := wo_ne (eqB_str h1 h2) p
theorem wo_addS (h : x.length + y.length ≤ sizeLine) (p : P false (.str (x ++ y))) : WO (addD (.str x) (.str y)) P := ⟨_, _, if_pos h, p⟩
/-- an item -/
theorem atI_nn {α : Type} {xs : List α} {j : Nat} {d : α} (h : xs[j]? = some d) : atI xs (j : Int) = some d := by
  have hl := (List.getElem?_eq_some_iff.mp h).1
  unfold atI
  have e : ixN xs.length (j : Int) = some j := by
    unfold ixN
    first
    | (simp only [Int.natCast_nonneg, if_true, Int.toNat_natCast, hl]; done)
    | (simp [hl]; done)
    | (simp [hl]; omega)
  rw [e]
  exact h
theorem wo_ixL {ds : List D} {j : Nat} {d : D} (h : ds[j]? = some d) (hi : i = j) (p : P false d) : WO (ixD (.lst ds) (.int i)) P := ⟨_, _, by subst hi; simp only [ixD, atI_nn h], p⟩
theorem wo_ixS {j : Nat} {c : Nat} (h : x.cps.toList[j]? = some c) (hz : x.length ≤ sizeLine) (hi : i = j) (p : P false (.str ⟨#[c]⟩)) : WO (ixD (.str x) (.int i)) P := ⟨_, _, by subst hi; simp only [ixD, if_pos hz, atI_nn h], p⟩
theorem wo_ixR {ns : List Int} {j : Nat} {c : Int} (h : ns[j]? = some c) (hi : i = j) (p : P false (.int c)) : WO (ixD (.ro ns) (.int i)) P := ⟨_, _, by subst hi; simp only [ixD, atI_nn h], p⟩
end
section
variable {f f1 f2 f3 c : MF} {fs : MA} {g : G} {P : Bool → D → G → Prop} {PA : List D → G → Prop} {R : Rt → Prop} {F F1 F2 : MS} {i N : Nat} {d : D}
theorem we_bool' (h : WE f g fun _ d g1 => ∃ b, d = .bl b ∧ P false (.bl b) g1) : WE (mBool f) g P := we_bool.mpr h
theorem WC.mono {ds : List D} {P P' : Bool → D → Prop} (h : WC F N ds P) (k : ∀ n d, P n d → P' n d) : WC F N ds P' := by
  obtain ⟨n, d, g', e, p⟩ := h
  exact ⟨n, d, g', e, k n d p⟩
theorem WCio.mono {dj : D} {ds : List D} {P P' : Bool → D → D → Prop} (h : WCio F N dj ds P) (k : ∀ n d d', P n d d' → P' n d d') : WCio F N dj ds P' := by
  obtain ⟨n, d, g', d', e, e2, p⟩ := h
  exact ⟨n, d, g', d', e, e2, k n d d' p⟩
def WPO (f : Option MF) (g : G) (Q : Option Int → G → Prop) : Prop := match f with
  | none => Q none g
  | some f => WE f g fun _ d g1 => ∃ i, d = .int i ∧ Q (some i) g1
theorem wpo_none {Q : Option Int → G → Prop} (h : Q none g) : WPO none g Q := h
theorem wpo_some {Q : Option Int → G → Prop} (h : WE f g fun _ d g1 => ∃ i, d = .int i ∧ Q (some i) g1) : WPO (some f) g Q := h
theorem wpo_then {fl : Option MF} {k : Option Int → MF} (h : WPO fl g fun l g1 => WE (k l) g1 P) : WE (oThen fl k) g P := by
  cases fl with
  | none => exact h
  | some f =>
    unfold oThen
    rw [we_then]
    refine WE.mono h fun n d g1 h => ?_
    obtain ⟨i, rfl, h⟩ := h
    exact h
theorem we_sl {o : D → Option Int → Option Int → Option (Bool × D)} {fl fh : Option MF} (h : WE f g fun _ d g1 => WPO fl g1 fun l g2 => WPO fh g2 fun u g3 => WO (o d l u) fun n z => P n z g3) : WE (mSl o f fl fh) g P := by
  unfold mSl
  rw [we_then]
  refine h.mono fun n d g1 h => wpo_then ?_
  have mo : ∀ {fl : Option MF} {g : G} {Q Q' : Option Int → G → Prop}, WPO fl g Q → (∀ l g, Q l g → Q' l g) → WPO fl g Q' := fun {fl g Q Q'} h k => by
    cases fl with
    | none => exact k _ _ h
    | some f =>
      refine WE.mono h fun n d g1 h => ?_
      obtain ⟨i, e, h⟩ := h
      exact ⟨i, e, k _ _ h⟩
  refine mo h fun l g2 h => wpo_then (mo h fun u g3 h => we_o.mpr h)
/-- a walk of items -/
def WL (o : Option (List D)) (Q : List D → Prop) : Prop := (∃ l, o = some l ∧ Q l) ∨ False
theorem wl_mk {o : Option (List D)} {Q : List D → Prop} {l : List D} (e : o = some l) (q : Q l) : WL o Q := .inl ⟨l, e, q⟩
theorem wa_of' {o : List D → Option (List D)} (h : WA fs g fun ds g1 => WL (o ds) fun l => PA l g1) : WA (iOf o fs) g PA := wa_of.mpr (h.mono fun ds g1 h => h.elim id False.elim)
theorem ite_t {p : Prop} [Decidable p] {A B : Prop} (h : p) (k : A) : if p then A else B := by rw [if_pos h]; exact k
theorem ite_f {p : Prop} [Decidable p] {A B : Prop} (h : ¬ p) (k : B) : if p then A else B := by rw [if_neg h]; exact k
theorem iteb {b : Bool} {A B : Prop} (h1 : b = true → A) (h2 : b = false → B) : if b = true then A else B := by cases b <;> simp_all
end
/-- a slot that holds nothing or data -/
def opt : Option D → SD
  | none => .no
  | some d => .im d
theorem free_opt {o : Option D} {l : G} : free? (opt o :: l) 0 = true := by cases o <;> rfl
theorem free_im {d : D} {l : G} : free? (.im d :: l) 0 = true := rfl
theorem free_no {l : G} : free? (.no :: l) 0 = true := rfl
def optM : Option D → SD
  | none => .no
  | some d => .mu d
theorem free_optM {o : Option D} {l : G} : free? (optM o :: l) 0 = true := by cases o <;> rfl
theorem free_mu {d : D} {l : G} : free? (.mu d :: l) 0 = true := rfl
theorem free_suc {x : SD} {l : G} {i : Nat} : free? (x :: l) (i + 1) = free? l i := rfl
theorem put_at {i : Nat} {d : D} {g : G} (h : free? g i = true) : putIm i d g = some (g.set i (.im d)) := if_pos h
theorem gtup2 {i j : Nat} {a b : D} {g : G} (h : free? g i = true) (h2 : free? (g.set i (.im a)) j = true) : gTupD 2 (gsCons (putIm i) (gsCons (putIm j) gsNil)) (.tup [a, b]) g = some ((g.set i (.im a)).set j (.im b)) := by
  show gsCons (putIm i) (gsCons (putIm j) gsNil) [a, b] g = _
  simp only [gsCons, put_at h, put_at h2, gsNil]
end TL
namespace TL
open PySem PySem.Spec PyProof.Rows L2
local macro_rules | `(tactic| walk_at "ev1") => `(tactic| first
  | with_reducible refine ws_seq.mpr ?_
  | with_reducible refine ws_next.mpr ?_
  | with_reducible refine ws_set ?_
  | with_reducible refine ws_setMu ?_
  | with_reducible refine ws_expr ?_
  | with_reducible refine ws_ret ?_
  | ((with_reducible refine ws_retMu ?_); refine ⟨_, rfl, ?_⟩)
  | with_reducible refine ws_if ?_
  | with_reducible refine ws_setIx ?_
  | with_reducible refine ws_asg ?_
  | with_reducible refine ws_for ?_
  | ((with_reducible refine ws_demote ?_); refine ⟨_, rfl, ?_⟩)
  | ((with_reducible refine we_var.mpr ?_); refine ⟨_, rfl, ?_⟩)
  | with_reducible refine we_c.mpr ?_
  | with_reducible refine we_bin.mpr ?_
  | with_reducible refine we_un.mpr ?_
  | with_reducible refine we_bool' ?_
  | with_reducible refine we_andT.mpr ?_
  | with_reducible refine we_orT.mpr ?_
  | with_reducible refine we_notT.mpr ?_
  | with_reducible refine we_andV.mpr ?_
  | with_reducible refine we_orV.mpr ?_
  | with_reducible refine we_notV.mpr ?_
  | with_reducible refine we_if.mpr ?_
  | with_reducible refine we_lst.mpr ?_
  | with_reducible refine we_tup.mpr ?_
  | with_reducible refine we_B.mpr ?_
  | with_reducible refine we_M.mpr ?_
  | with_reducible refine we_call.mpr ?_
  | ((with_reducible refine we_callIo.mpr ?_); refine ⟨⟨_, rfl⟩, ?_⟩)
  | ((with_reducible refine we_frz.mpr ?_); refine ⟨_, rfl, ?_⟩)
  | ((with_reducible refine we_rd.mpr ?_); refine ⟨⟨_, rfl⟩, ?_⟩)
  | ((with_reducible refine we_rd1.mpr ?_); refine ⟨_, rfl, ?_⟩)
  | ((with_reducible refine we_mut.mpr ?_); refine ⟨⟨_, rfl, rfl⟩, ?_⟩)
  | with_reducible refine we_chain.mpr ?_
  | with_reducible refine we_comp ?_
  | with_reducible refine we_sl ?_
  | with_reducible refine wpo_none ?_
  | with_reducible refine wpo_some ?_
  | with_reducible refine wa_nil.mpr ?_
  | with_reducible refine wa_cons.mpr ?_
  | with_reducible refine wa_items.mpr ?_
  | with_reducible refine wa_of' ?_
  | with_reducible refine wt_bl.mpr ?_
  | with_reducible refine wo_eqI ?_
  | with_reducible refine wo_neI ?_
  | with_reducible refine wo_eqB ?_
  | with_reducible refine wo_neB ?_
  | (with_reducible refine wo_fdiv (by omega) ?_)
  | (with_reducible refine wo_mod (by omega) ?_)
  | ((with_reducible refine wo_mul ?_ ?_); (focus first | (left; omega) | (right; omega)))
  | (refine wo_mk (n := _) (z := _) rfl ?_)
  | with_reducible refine ite_t rfl ?_
  | with_reducible refine ite_f (by decide) ?_
  | refine ⟨_, rfl, ?_⟩
  | refine ⟨rfl, ?_⟩
  | refine ⟨⟨rfl, rfl⟩, ?_⟩
  | refine ⟨⟨_, rfl⟩, ?_⟩
  | refine ⟨by decide, ?_⟩
  | refine ⟨by simp only [List.length_cons, List.length_nil]; decide, ?_⟩
  | refine ⟨by simp only [List.set_cons_succ, List.set_cons_zero, free_suc, free_opt, free_optM, free_im, free_mu, free_no, and_self], ?_⟩
  | refine ⟨_, put_at (by simp only [List.set_cons_succ, List.set_cons_zero, free_suc, free_opt, free_optM, free_im, free_mu, free_no, and_self]), ?_⟩
  | refine ⟨_, gtup2 (by simp only [List.set_cons_succ, List.set_cons_zero, free_suc, free_opt, free_optM, free_im, free_mu, free_no, and_self]) (by simp only [List.set_cons_succ, List.set_cons_zero, free_suc, free_opt, free_optM, free_im, free_mu, free_no, and_self]), ?_⟩
  | with_reducible exact rfl)
def PoolN (n : Nat) (d : D) : Prop := ∃ x y z : Int, d = .lst [.int x, .int y, .int z] ∧ 0 ≤ z ∧ z ≤ n
/-- the pose of a turning about and a number of turns -/
def poseN (m : Bool) (t : Nat) : Str := match m, t % 4 with
  | false, 0 => "0"
  | false, 1 => "1"
  | false, 2 => "2"
  | false, _ => "3"
  | true, 0 => "m0"
  | true, 1 => "m1"
  | true, 2 => "m2"
  | true, _ => "m3"
/-- the pose of one and then of another one -/
def behN (m : Bool) (t : Nat) (m' : Bool) (t' : Nat) : Bool × Nat := (m != m', if m' then (t' + 4 - t) % 4 else (t' + t) % 4)
end TL
set_option Elab.async false
set_option linter.all false
set_option maxRecDepth 100000
set_option maxHeartbeats 4000000
namespace TL
open PySem PySem.Spec PyProof.Rows L2
local macro_rules | `(tactic| walk_at "ev1") => `(tactic| first
  | with_reducible refine ws_seq.mpr ?_
  | with_reducible refine ws_next.mpr ?_
  | with_reducible refine ws_set ?_
  | with_reducible refine ws_setMu ?_
  | with_reducible refine ws_expr ?_
  | with_reducible refine ws_ret ?_
  | ((with_reducible refine ws_retMu ?_); refine ⟨_, rfl, ?_⟩)
  | with_reducible refine ws_if ?_
  | with_reducible refine ws_setIx ?_
  | with_reducible refine ws_asg ?_
  | with_reducible refine ws_for ?_
  | ((with_reducible refine ws_demote ?_); refine ⟨_, rfl, ?_⟩)
  | ((with_reducible refine we_var.mpr ?_); refine ⟨_, rfl, ?_⟩)
  | with_reducible refine we_c.mpr ?_
  | with_reducible refine we_bin.mpr ?_
  | with_reducible refine we_un.mpr ?_
  | with_reducible refine we_bool' ?_
  | with_reducible refine we_andT.mpr ?_
  | with_reducible refine we_orT.mpr ?_
  | with_reducible refine we_notT.mpr ?_
  | with_reducible refine we_andV.mpr ?_
  | with_reducible refine we_orV.mpr ?_
  | with_reducible refine we_notV.mpr ?_
  | with_reducible refine we_if.mpr ?_
  | with_reducible refine we_lst.mpr ?_
  | with_reducible refine we_tup.mpr ?_
  | with_reducible refine we_B.mpr ?_
  | with_reducible refine we_M.mpr ?_
  | with_reducible refine we_call.mpr ?_
  | ((with_reducible refine we_callIo.mpr ?_); refine ⟨⟨_, rfl⟩, ?_⟩)
  | ((with_reducible refine we_frz.mpr ?_); refine ⟨_, rfl, ?_⟩)
  | ((with_reducible refine we_rd.mpr ?_); refine ⟨⟨_, rfl⟩, ?_⟩)
  | ((with_reducible refine we_rd1.mpr ?_); refine ⟨_, rfl, ?_⟩)
  | ((with_reducible refine we_mut.mpr ?_); refine ⟨⟨_, rfl, rfl⟩, ?_⟩)
  | with_reducible refine we_chain.mpr ?_
  | with_reducible refine we_comp ?_
  | with_reducible refine we_sl ?_
  | with_reducible refine wpo_none ?_
  | with_reducible refine wpo_some ?_
  | with_reducible refine wa_nil.mpr ?_
  | with_reducible refine wa_cons.mpr ?_
  | with_reducible refine wa_items.mpr ?_
  | with_reducible refine wa_of' ?_
  | with_reducible refine wt_bl.mpr ?_
  | with_reducible refine wo_eqI ?_
  | with_reducible refine wo_neI ?_
  | with_reducible refine wo_eqB ?_
  | with_reducible refine wo_neB ?_
  | (with_reducible refine wo_fdiv (by omega) ?_)
  | (with_reducible refine wo_mod (by omega) ?_)
  | ((with_reducible refine wo_mul ?_ ?_); (focus first | (left; omega) | (right; omega)))
  | (refine wo_mk (n := _) (z := _) rfl ?_)
  | with_reducible refine ite_t rfl ?_
  | with_reducible refine ite_f (by decide) ?_
  | refine ⟨_, rfl, ?_⟩
  | refine ⟨rfl, ?_⟩
  | refine ⟨⟨rfl, rfl⟩, ?_⟩
  | refine ⟨⟨_, rfl⟩, ?_⟩
  | refine ⟨by decide, ?_⟩
  | refine ⟨by simp only [List.length_cons, List.length_nil]; decide, ?_⟩
  | refine ⟨by simp only [List.set_cons_succ, List.set_cons_zero, free_suc, free_opt, free_optM, free_im, free_mu, free_no, and_self], ?_⟩
  | refine ⟨_, put_at (by simp only [List.set_cons_succ, List.set_cons_zero, free_suc, free_opt, free_optM, free_im, free_mu, free_no, and_self]), ?_⟩
  | refine ⟨_, gtup2 (by simp only [List.set_cons_succ, List.set_cons_zero, free_suc, free_opt, free_optM, free_im, free_mu, free_no, and_self]) (by simp only [List.set_cons_succ, List.set_cons_zero, free_suc, free_opt, free_optM, free_im, free_mu, free_no, and_self]), ?_⟩
  | with_reducible exact rfl)
section
variable {P : Bool → D → Prop} {PA : List D → G → Prop} {R : Rt → Prop} {F : MS} {g : G} {tg : D → G → Option G}
theorem wo_lenS {x : Str} {n : Nat} (h : x.length = n) (hz : n ≤ sizeLine) (p : P false (.int n)) : WO (lenD [.str x]) P := by subst h; exact ⟨_, _, if_pos hz, p⟩
theorem rangeL_get {lo : Int} {n i : Nat} {d : D} (h : (rangeL lo n)[i]? = some d) : i < n ∧ d = .int (lo + i) := by
  unfold rangeL at h
  rw [List.getElem?_map] at h
  by_cases hi : i < n
  · rw [List.getElem?_range hi] at h
    cases h
    exact ⟨hi, rfl⟩
  · rw [List.getElem?_eq_none (by rw [List.length_range]; omega)] at h
    cases h
theorem rangeL_len {lo : Int} {n : Nat} : (rangeL lo n).length = n := by unfold rangeL; rw [List.length_map, List.length_range]
theorem range1_nat {n : Nat} (hn : n < 1000000) : range1D [.int n] = some (rangeL 0 n) := by
  have h : ok62 (n : Int) = true := decide_eq_true ⟨by omega, by omega⟩
  simp only [range1D, if_pos h, Int.toNat_natCast]
/-- for .. in range(n) -/
theorem ws_range {n : Nat} (Inv : Nat → G → Prop) (hn : n < 1000000) (h0 : Inv 0 g) (hs : ∀ (i : Nat) g, i < n → Inv i g → ∃ g1, tg (.int i) g = some g1 ∧ WS F g1 fun r => match r with
      | .nx g2 => Inv (i + 1) g2
      | .ct g2 => Inv (i + 1) g2
      | .bk g2 => R (.nx g2)
      | r => R r) (hd : ∀ g, Inv n g → R (.nx g)) : WL (range1D [.int n]) fun l => WS (loopF tg F l) g R := by
  refine wl_mk (range1_nat hn) (ws_loop Inv _ 0 g h0 (fun i d g hi hv => ?_) fun g hv => hd g ?_)
  · obtain ⟨h1, rfl⟩ := rangeL_get hi
    rw [Nat.zero_add] at hv ⊢
    rw [Int.zero_add]
    exact hs i g h1 hv
  · rw [Nat.zero_add, rangeL_len] at hv
    exact hv
end
def txt (w : Nat) (f : Nat → Nat) : Str := ⟨((List.range w).map f).toArray⟩
def tab (h w : Nat) (T : Nat → Nat → Nat) : List Str := (List.range h).map fun i => txt w (T i)
section
variable {h w : Nat} {f f' : Nat → Nat} {T T' : Nat → Nat → Nat}
theorem txt_len : (txt w f).length = w := by
  show ((List.range w).map f).toArray.size = w
  rw [List.size_toArray, List.length_map, List.length_range]
theorem txt_get {j : Nat} (hj : j < w) : (txt w f).cps.toList[j]? = some (f j) := by
  show ((List.range w).map f)[j]? = _
  rw [List.getElem?_map, List.getElem?_range hj]
  rfl
theorem txt_snoc : txt w f ++ ⟨#[f w]⟩ = txt (w + 1) f := by
  unfold txt
  rw [List.range_succ, List.map_append]
  show (⟨((List.range w).map f).toArray ++ #[f w]⟩ : Str) = _
  congr 1
  simp
theorem txt_ext (e : ∀ j, j < w → f j = f' j) : txt w f = txt w f' := by
  unfold txt
  rw [List.map_congr_left fun j hj => e j (List.mem_range.mp hj)]
theorem txt_ok (e : ∀ j, j < w → f j < 1114112) : PyData.strOk (txt w f) = true := by
  unfold PyData.strOk
  rw [Array.all_eq_true']
  intro c hc
  show decide (c < 1114112) = true
  have hc : c ∈ (List.range w).map f := by simpa [txt] using hc
  obtain ⟨j, hj, rfl⟩ := List.mem_map.mp hc
  exact decide_eq_true (e j (List.mem_range.mp hj))
theorem tab_len : (tab h w T).length = h := by unfold tab; rw [List.length_map, List.length_range]
theorem tab_snoc : tab h w T ++ [txt w (T h)] = tab (h + 1) w T := by
  unfold tab
  rw [List.range_succ, List.map_append]
  rfl
theorem tab_ext (e : ∀ i j, i < h → j < w → T i j = T' i j) : tab h w T = tab h w T' := by
  unfold tab
  exact List.map_congr_left fun i hi => txt_ext fun j hj => e i j (List.mem_range.mp hi) hj
theorem tabS_get {i : Nat} (hi : i < h) : ((tab h w T).map D.str)[i]? = some (.str (txt w (T i))) := by
  unfold tab
  rw [List.getElem?_map, List.getElem?_map, List.getElem?_range hi]
  rfl
theorem tab_ok (e : ∀ i j, i < h → j < w → T i j < 1114112) : okL (tab h w T) := by
  intro x hx
  obtain ⟨i, hi, rfl⟩ := List.mem_map.mp hx
  exact txt_ok fun j hj => e i j (List.mem_range.mp hi) hj
end
def mir (m : Bool) (w j : Nat) : Nat := if m then w - 1 - j else j
def cellN (m : Bool) (t h w r c : Nat) : Nat × Nat := match t with
  | 0 => (r, mir m w c)
  | 1 => (h - 1 - c, mir m w r)
  | 2 => (h - 1 - r, mir m w (w - 1 - c))
  | _ => (c, mir m w (w - 1 - r))
def dim (t h w : Nat) : Nat := match t with
  | 0 => h
  | 1 => w
  | 2 => h
  | _ => w
def inP (m : Bool) (t h w : Nat) (T : Nat → Nat → Nat) : Nat → Nat → Nat := fun r c => T (cellN m t h w r c).1 (cellN m t h w r c).2
theorem cell_in {m : Bool} {t h w r c : Nat} (ht : t < 4) (hr : r < dim t h w) (hc : c < dim t w h) : (cellN m t h w r c).1 < h ∧ (cellN m t h w r c).2 < w := by
  rcases m with _ | _ <;> (rcases t with _ | _ | _ | _ | t <;> first | omega | (simp only [cellN, dim, mir] at *; simp only [if_true, if_false, Bool.false_eq_true] at *; omega))
section
variable {P : Bool → D → Prop}
theorem dim_lt {t h w b : Nat} (h1 : h < b) (h2 : w < b) : dim t h w < b := by unfold dim; split <;> assumption
theorem dim_pos {t h w : Nat} (h1 : 0 < h) (h2 : 0 < w) : 0 < dim t h w := by unfold dim; split <;> assumption
end
theorem app_at {ds : List D} {d : D} (h : ds.length < sizeLine) : appD (.lst ds) [d] = some (.non, .lst (ds ++ [d])) := if_pos h
theorem lst_snoc {xs : List Str} {x : Str} : xs.map D.str ++ [.str x] = (xs ++ [x]).map D.str := by rw [List.map_append]; rfl
end TL
set_option Elab.async false
set_option linter.all false
set_option maxRecDepth 100000
set_option maxHeartbeats 4000000
namespace TL
open PySem PySem.Spec PyProof.Rows L2
local macro_rules | `(tactic| walk_at "ev1") => `(tactic| first
  | with_reducible refine ws_seq.mpr ?_
  | with_reducible refine ws_next.mpr ?_
  | with_reducible refine ws_set ?_
  | with_reducible refine ws_setMu ?_
  | with_reducible refine ws_expr ?_
  | with_reducible refine ws_ret ?_
  | ((with_reducible refine ws_retMu ?_); refine ⟨_, rfl, ?_⟩)
  | with_reducible refine ws_if ?_
  | with_reducible refine ws_setIx ?_
  | with_reducible refine ws_asg ?_
  | with_reducible refine ws_for ?_
  | ((with_reducible refine ws_demote ?_); refine ⟨_, rfl, ?_⟩)
  | ((with_reducible refine we_var.mpr ?_); refine ⟨_, rfl, ?_⟩)
  | with_reducible refine we_c.mpr ?_
  | with_reducible refine we_bin.mpr ?_
  | with_reducible refine we_un.mpr ?_
  | with_reducible refine we_bool' ?_
  | with_reducible refine we_andT.mpr ?_
  | with_reducible refine we_orT.mpr ?_
  | with_reducible refine we_notT.mpr ?_
  | with_reducible refine we_andV.mpr ?_
  | with_reducible refine we_orV.mpr ?_
  | with_reducible refine we_notV.mpr ?_
  | with_reducible refine we_if.mpr ?_
  | with_reducible refine we_lst.mpr ?_
  | with_reducible refine we_tup.mpr ?_
  | with_reducible refine we_B.mpr ?_
  | with_reducible refine we_M.mpr ?_
  | with_reducible refine we_call.mpr ?_
  | ((with_reducible refine we_callIo.mpr ?_); refine ⟨⟨_, rfl⟩, ?_⟩)
  | ((with_reducible refine we_frz.mpr ?_); refine ⟨_, rfl, ?_⟩)
  | ((with_reducible refine we_rd.mpr ?_); refine ⟨⟨_, rfl⟩, ?_⟩)
  | ((with_reducible refine we_rd1.mpr ?_); refine ⟨_, rfl, ?_⟩)
  | ((with_reducible refine we_mut.mpr ?_); refine ⟨⟨_, rfl, rfl⟩, ?_⟩)
  | with_reducible refine we_chain.mpr ?_
  | with_reducible refine we_comp ?_
  | with_reducible refine we_sl ?_
  | with_reducible refine wpo_none ?_
  | with_reducible refine wpo_some ?_
  | with_reducible refine wa_nil.mpr ?_
  | with_reducible refine wa_cons.mpr ?_
  | with_reducible refine wa_items.mpr ?_
  | with_reducible refine wa_of' ?_
  | with_reducible refine wt_bl.mpr ?_
  | with_reducible refine wo_eqI ?_
  | with_reducible refine wo_neI ?_
  | with_reducible refine wo_eqB ?_
  | with_reducible refine wo_neB ?_
  | (with_reducible refine wo_fdiv (by omega) ?_)
  | (with_reducible refine wo_mod (by omega) ?_)
  | ((with_reducible refine wo_mul ?_ ?_); (focus first | (left; omega) | (right; omega)))
  | (refine wo_mk (n := _) (z := _) rfl ?_)
  | with_reducible refine ite_t rfl ?_
  | with_reducible refine ite_f (by decide) ?_
  | refine ⟨_, rfl, ?_⟩
  | refine ⟨rfl, ?_⟩
  | refine ⟨⟨rfl, rfl⟩, ?_⟩
  | refine ⟨⟨_, rfl⟩, ?_⟩
  | refine ⟨by decide, ?_⟩
  | refine ⟨by simp only [List.length_cons, List.length_nil]; decide, ?_⟩
  | refine ⟨by simp only [List.set_cons_succ, List.set_cons_zero, free_suc, free_opt, free_optM, free_im, free_mu, free_no, and_self], ?_⟩
  | refine ⟨_, put_at (by simp only [List.set_cons_succ, List.set_cons_zero, free_suc, free_opt, free_optM, free_im, free_mu, free_no, and_self]), ?_⟩
  | refine ⟨_, gtup2 (by simp only [List.set_cons_succ, List.set_cons_zero, free_suc, free_opt, free_optM, free_im, free_mu, free_no, and_self]) (by simp only [List.set_cons_succ, List.set_cons_zero, free_suc, free_opt, free_optM, free_im, free_mu, free_no, and_self]), ?_⟩
  | with_reducible exact rfl)
section
variable {f e : MF} {c : Option MF} {fs it : MA} {g : G} {P : List D → G → Prop} {R : Rt → Prop} {F : MS} {tg : D → G → Option G} {vs : List Nat}
/-- [e for x in range(n)] -/
theorem wl_compR {n : Nat} (Inv : Nat → List D → G → Prop) (hn : n < 1000000) (h0 : Inv 0 [] g) (hs : ∀ (i : Nat) acc g, i < n → Inv i acc g → plain? g vs = true ∧ ∃ g1, tg (.int i) (wipeG g vs) = some g1 ∧ WE e g1 fun _ z g3 => (acc.length < sizeLine ∧ g3.length = g.length) ∧ Inv (i + 1) (acc ++ [z]) (backG g g3 vs))
    (hd : ∀ acc g2, Inv n acc g2 → shape g2 = shape g ∧ P acc g2) : WL (range1D [.int n]) fun ds => ∃ acc g2, compL tg none e vs ds [] g = some (acc, g2) ∧ shape g2 = shape g ∧ P acc g2 := by
  refine wl_mk (range1_nat hn) ?_
  obtain ⟨acc, g2, h1, h2⟩ := compL_ind (tg := tg) (c := none) (e := e) (vs := vs) Inv (rangeL 0 n) 0 [] g h0 (fun i d acc g hi hv => by
    obtain ⟨h1, rfl⟩ := rangeL_get hi
    rw [Nat.zero_add] at hv ⊢
    rw [Int.zero_add]
    obtain ⟨hp, g1, h2, h3⟩ := hs i acc g h1 hv
    exact ⟨hp, g1, h2, we_c.mpr (wt_bl.mpr (by rw [if_pos rfl]; exact h3))⟩)
  rw [Nat.zero_add, rangeL_len] at h2
  exact ⟨acc, g2, h1, hd acc g2 h2⟩
/-- [e for x in ds] -/
theorem comp_items {ds : List D} (Inv : Nat → List D → G → Prop) (h0 : Inv 0 [] g) (hs : ∀ (i : Nat) d acc g, ds[i]? = some d → Inv i acc g → plain? g vs = true ∧ ∃ g1, tg d (wipeG g vs) = some g1 ∧ WE e g1 fun _ z g3 => (acc.length < sizeLine ∧ g3.length = g.length) ∧ Inv (i + 1) (acc ++ [z]) (backG g g3 vs))
    (hd : ∀ acc g2, Inv ds.length acc g2 → shape g2 = shape g ∧ P acc g2) : ∃ acc g2, compL tg none e vs ds [] g = some (acc, g2) ∧ shape g2 = shape g ∧ P acc g2 := by
  obtain ⟨acc, g2, h1, h2⟩ := compL_ind (tg := tg) (c := none) (e := e) (vs := vs) Inv ds 0 [] g h0 (fun i d acc g hi hv => by
    rw [Nat.zero_add] at hv ⊢
    obtain ⟨hp, g1, h2, h3⟩ := hs i d acc g hi hv
    exact ⟨hp, g1, h2, we_c.mpr (wt_bl.mpr (by rw [if_pos rfl]; exact h3))⟩)
  rw [Nat.zero_add] at h2
  exact ⟨acc, g2, h1, hd acc g2 h2⟩
/-- for x in ds -/
theorem ws_items {ds : List D} (Inv : Nat → G → Prop) (h0 : Inv 0 g) (hs : ∀ (i : Nat) d g, ds[i]? = some d → Inv i g → ∃ g1, tg d g = some g1 ∧ WS F g1 fun r => match r with
      | .nx g2 => Inv (i + 1) g2
      | .ct g2 => Inv (i + 1) g2
      | .bk g2 => R (.nx g2)
      | r => R r) (hd : ∀ g, Inv ds.length g → R (.nx g)) : WS (loopF tg F ds) g R :=
  ws_loop Inv ds 0 g h0 (fun i d g hi hv => by
    rw [Nat.zero_add] at hv ⊢
    exact hs i d g hi hv) fun g hv => hd g (by rw [Nat.zero_add] at hv; exact hv)
end
/-- the text of one sign -/
def sg (c : Nat) : Str := ⟨#[c]⟩
theorem strs_map : ∀ xs : List Str, strsD (xs.map .str) = some xs
  | [] => rfl
  | x :: xs => by simp only [List.map_cons, strsD, strs_map xs]
theorem join_sg (cs : List Nat) : Txt.join "" (cs.map sg) = ⟨cs.toArray⟩ := by
  rw [join_eq]
  induction cs with
  | nil => rfl
  | cons c cs ih =>
    cases cs with
    | nil => rfl
    | cons d cs =>
      show sg c ++ "" ++ Str.join "" ((d :: cs).map sg) = _
      rw [ih]
      show (⟨#[c] ++ #[] ++ (d :: cs).toArray⟩ : Str) = _
      congr 1
      simp
theorem sum_sg : ∀ cs : List Nat, ((cs.map sg).map (·.length)).sum = cs.length
  | [] => rfl
  | c :: cs => by
    rw [List.map_cons, List.map_cons, List.sum_cons, sum_sg cs, List.length_cons]
    show 1 + cs.length = _
    omega
theorem wo_join {cs : List Nat} {P : Bool → D → Prop} (h : cs.length ≤ 16777216) (p : P false (.str ⟨cs.toArray⟩)) : WO (joinD (.str "") [.lst ((cs.map sg).map .str)]) P := by
  refine ⟨_, _, ?_, p⟩
  unfold joinD
  simp only [strs_map]
  rw [sum_sg, if_pos (by show cs.length + _ * 0 ≤ _; omega), join_sg]
theorem wo_popAt {ds : List D} {j : Nat} {d : D} {i : Int} (h : ds[j]? = some d) (hz : ds.length < 1000000) (hi : i = j) : popAtD (.lst ds) [.int i] = some (d, .lst (ds.eraseIdx j)) := by
  subst hi
  have hl := (List.getElem?_eq_some_iff.mp h).1
  have e : seqIndex? (j : Int) ds.length = some j := by
    unfold seqIndex?
    simp [hl]
    omega
  unfold popAtD
  simp only [e, h]
  rw [if_pos (by omega)]
theorem set_back {g : G} {v : Nat} {x y : SD} (hv : v < g.length) : ((g.set v x).set v y).set v (g.getD v .no) = g := by
  rw [List.set_set, List.set_set, List.getD_eq_getElem?_getD, List.getElem?_eq_getElem hv]
  exact List.set_getElem_self hv
theorem map_erase {α β : Type} {f : α → β} : ∀ (l : List α) (i : Nat), (l.map f).eraseIdx i = (l.eraseIdx i).map f
  | [], _ => rfl
  | a :: l, 0 => rfl
  | a :: l, i + 1 => by rw [List.map_cons, List.eraseIdx_cons_succ, List.eraseIdx_cons_succ, List.map_cons, map_erase l i]
theorem popSg {cs : List Nat} {x : Nat} (h : x < cs.length) (hz : cs.length < 1000000) : popAtD (.lst ((cs.map sg).map .str)) [.int x] = some (.str (sg cs[x]), .lst (((cs.eraseIdx x).map sg).map .str)) := by
  rw [wo_popAt (j := x) (d := .str (sg cs[x])) (by rw [List.getElem?_map, List.getElem?_map, List.getElem?_eq_getElem h]; rfl) (by rw [List.length_map, List.length_map]; exact hz) rfl]
  rw [map_erase, map_erase]
theorem sg_snoc {cs : List Nat} {c : Nat} : (cs.map sg).map D.str ++ [.str (sg c)] = ((cs ++ [c]).map sg).map D.str := by rw [List.map_append, List.map_append]; rfl
end TL
set_option Elab.async false
set_option linter.all false
set_option maxRecDepth 100000
set_option maxHeartbeats 4000000
namespace TL
open PySem PySem.Spec PyProof.Rows L2
local macro_rules | `(tactic| walk_at "ev1") => `(tactic| first
  | with_reducible refine ws_seq.mpr ?_
  | with_reducible refine ws_next.mpr ?_
  | with_reducible refine ws_set ?_
  | with_reducible refine ws_setMu ?_
  | with_reducible refine ws_expr ?_
  | with_reducible refine ws_ret ?_
  | ((with_reducible refine ws_retMu ?_); refine ⟨_, rfl, ?_⟩)
  | with_reducible refine ws_if ?_
  | with_reducible refine ws_setIx ?_
  | with_reducible refine ws_asg ?_
  | with_reducible refine ws_for ?_
  | ((with_reducible refine ws_demote ?_); refine ⟨_, rfl, ?_⟩)
  | ((with_reducible refine we_var.mpr ?_); refine ⟨_, rfl, ?_⟩)
  | with_reducible refine we_c.mpr ?_
  | with_reducible refine we_bin.mpr ?_
  | with_reducible refine we_un.mpr ?_
  | with_reducible refine we_bool' ?_
  | with_reducible refine we_andT.mpr ?_
  | with_reducible refine we_orT.mpr ?_
  | with_reducible refine we_notT.mpr ?_
  | with_reducible refine we_andV.mpr ?_
  | with_reducible refine we_orV.mpr ?_
  | with_reducible refine we_notV.mpr ?_
  | with_reducible refine we_if.mpr ?_
  | with_reducible refine we_lst.mpr ?_
  | with_reducible refine we_tup.mpr ?_
  | with_reducible refine we_B.mpr ?_
  | with_reducible refine we_M.mpr ?_
  | with_reducible refine we_call.mpr ?_
  | ((with_reducible refine we_callIo.mpr ?_); refine ⟨⟨_, rfl⟩, ?_⟩)
  | ((with_reducible refine we_frz.mpr ?_); refine ⟨_, rfl, ?_⟩)
  | ((with_reducible refine we_rd.mpr ?_); refine ⟨⟨_, rfl⟩, ?_⟩)
  | ((with_reducible refine we_rd1.mpr ?_); refine ⟨_, rfl, ?_⟩)
  | ((with_reducible refine we_mut.mpr ?_); refine ⟨⟨_, rfl, rfl⟩, ?_⟩)
  | with_reducible refine we_chain.mpr ?_
  | with_reducible refine we_comp ?_
  | with_reducible refine we_sl ?_
  | with_reducible refine wpo_none ?_
  | with_reducible refine wpo_some ?_
  | with_reducible refine wa_nil.mpr ?_
  | with_reducible refine wa_cons.mpr ?_
  | with_reducible refine wa_items.mpr ?_
  | with_reducible refine wa_of' ?_
  | with_reducible refine wt_bl.mpr ?_
  | with_reducible refine wo_eqI ?_
  | with_reducible refine wo_neI ?_
  | with_reducible refine wo_eqB ?_
  | with_reducible refine wo_neB ?_
  | (with_reducible refine wo_fdiv (by omega) ?_)
  | (with_reducible refine wo_mod (by omega) ?_)
  | ((with_reducible refine wo_mul ?_ ?_); (focus first | (left; omega) | (right; omega)))
  | (refine wo_mk (n := _) (z := _) rfl ?_)
  | with_reducible refine ite_t rfl ?_
  | with_reducible refine ite_f (by decide) ?_
  | refine ⟨_, rfl, ?_⟩
  | refine ⟨rfl, ?_⟩
  | refine ⟨⟨rfl, rfl⟩, ?_⟩
  | refine ⟨⟨_, rfl⟩, ?_⟩
  | refine ⟨by decide, ?_⟩
  | refine ⟨by simp only [List.length_cons, List.length_nil]; decide, ?_⟩
  | refine ⟨by simp only [List.set_cons_succ, List.set_cons_zero, free_suc, free_opt, free_optM, free_im, free_mu, free_no, and_self], ?_⟩
  | refine ⟨_, put_at (by simp only [List.set_cons_succ, List.set_cons_zero, free_suc, free_opt, free_optM, free_im, free_mu, free_no, and_self]), ?_⟩
  | refine ⟨_, gtup2 (by simp only [List.set_cons_succ, List.set_cons_zero, free_suc, free_opt, free_optM, free_im, free_mu, free_no, and_self]) (by simp only [List.set_cons_succ, List.set_cons_zero, free_suc, free_opt, free_optM, free_im, free_mu, free_no, and_self]), ?_⟩
  | with_reducible exact rfl)
theorem PoolN.le {n n' : Nat} {d : D} (h : PoolN n d) (l : n ≤ n') : PoolN n' d := by
  obtain ⟨x, y, z, e, h0, h1⟩ := h
  exact ⟨x, y, z, e, h0, by omega⟩
/-- a comprehension whose turns change nothing -/
theorem comp_pure {ds : List D} {g : G} {v : Nat} {e : MF} {Q : List D → G → Prop} (f : Nat → D) (hp : plain? g [v] = true) (hv : v < g.length) (hz : ds.length ≤ sizeLine)
    (he : ∀ i d, ds[i]? = some d → WE e ((g.set v .no).set v (.im d)) fun _ r g3 => r = f i ∧ g3 = (g.set v .no).set v (.im d)) (k : Q ((List.range ds.length).map f) g) :
    ∃ acc g2, compL (putIm v) none e [v] ds [] g = some (acc, g2) ∧ shape g2 = shape g ∧ Q acc g2 := by
  refine comp_items (fun k acc g' => acc = (List.range k).map f ∧ g' = g) ⟨rfl, rfl⟩ (fun i d acc g' hi hI => ?_) fun acc g2 hI => ?_
  · obtain ⟨rfl, rfl⟩ := hI
    have hl := (List.getElem?_eq_some_iff.mp hi).1
    have hv2 : v < (g'.set v SD.no).length := by rw [List.length_set]; exact hv
    refine ⟨hp, (g'.set v .no).set v (.im d), put_at ?_, (he i d hi).mono fun n r g3 h => ?_⟩
    · show free? (g'.set v .no) v = true
      unfold free?
      rw [List.getElem?_eq_getElem hv2, List.getElem_set_self]
    · obtain ⟨rfl, rfl⟩ := h
      refine ⟨⟨?_, ?_⟩, ?_, ?_⟩
      · rw [List.length_map, List.length_range]; omega
      · rw [List.length_set, List.length_set]
      · rw [List.range_succ, List.map_append]; rfl
      · exact set_back hv
  · obtain ⟨rfl, rfl⟩ := hI
    exact ⟨rfl, k⟩
theorem wl_pureR {n : Nat} {g : G} {v : Nat} {e : MF} {Q : List D → G → Prop} (f : Nat → D) (hn : n < 1000000) (hp : plain? g [v] = true) (hv : v < g.length)
    (he : ∀ i, i < n → WE e ((g.set v .no).set v (.im (.int i))) fun _ r g3 => r = f i ∧ g3 = (g.set v .no).set v (.im (.int i))) (k : Q ((List.range n).map f) g) :
    WL (range1D [.int n]) fun ds => ∃ acc g2, compL (putIm v) none e [v] ds [] g = some (acc, g2) ∧ shape g2 = shape g ∧ Q acc g2 := by
  refine wl_mk (range1_nat hn) (comp_pure f hp hv (by rw [rangeL_len]; unfold sizeLine; omega) (fun i d hi => ?_) (by rw [rangeL_len]; exact k))
  obtain ⟨h1, rfl⟩ := rangeL_get hi
  rw [Int.zero_add]
  exact he i h1
theorem bls_rep : ∀ n, blsD (List.replicate n (.bl true)) = some (List.replicate n true)
  | 0 => rfl
  | n + 1 => by simp only [List.replicate_succ, blsD, bls_rep n]
theorem wo_allT {n : Nat} {P : Bool → D → Prop} (p : P false (.bl true)) : WO (allD [.lst ((List.range n).map fun _ => .bl true)]) P := by
  refine ⟨_, _, ?_, p⟩
  rw [show ((List.range n).map fun _ => D.bl true) = List.replicate n (.bl true) by rw [List.map_const', List.length_range]]
  simp only [allD, bls_rep]
  rw [List.all_replicate]
  simp
theorem set_at {ds : List D} {j : Nat} {d : D} (h : j < ds.length) : setD (.lst ds) (.int j) d = some (.lst (ds.set j d)) := by
  have e : ixN ds.length (j : Int) = some j := by
    have h2 := atI_nn (xs := List.replicate ds.length ()) (j := j) (d := ()) (by rw [List.getElem?_replicate, if_pos h])
    unfold atI at h2
    rw [List.length_replicate] at h2
    unfold ixN at h2 ⊢
    simp [h]
  simp only [setD, e]
/-- signs -/
def SgT (h w : Nat) (T : Nat → Nat → Nat) : Prop := ∀ i j, i < h → j < w → 33 ≤ T i j ∧ T i j ≤ 126
theorem SgT.lt {h w : Nat} {T : Nat → Nat → Nat} (s : SgT h w T) : ∀ i j, i < h → j < w → T i j < 1114112 := fun i j hi hj => by have := s i j hi hj; omega
theorem lt_lo {c : Nat} (h : 33 ≤ c) : strLt (sg c) "!" = false := decide_eq_false fun z => by
  have z : [c] < [33] := z
  rw [List.cons_lt_cons_iff] at z
  rcases z with z | ⟨_, z⟩
  · omega
  · exact absurd z (by simp)
theorem lt_hi {c : Nat} (h : c ≤ 126) : strLt "~" (sg c) = false := decide_eq_false fun z => by
  have z : [126] < [c] := z
  rw [List.cons_lt_cons_iff] at z
  rcases z with z | ⟨_, z⟩
  · omega
  · exact absurd z (by simp)
theorem tabS_at {h w : Nat} {T : Nat → Nat → Nat} {i : Nat} {d : D} (e : ((tab h w T).map D.str)[i]? = some d) : i < h ∧ d = .str (txt w (T i)) := by
  have hl := (List.getElem?_eq_some_iff.mp e).1
  rw [List.length_map, tab_len] at hl
  rw [tabS_get hl] at e
  cases e
  exact ⟨hl, rfl⟩
theorem signs_get {w : Nat} {f : Nat → Nat} {i : Nat} {d : D} (h : (TL.signs (txt w f))[i]? = some d) : i < w ∧ d = .str (sg (f i)) := by
  have hl := (List.getElem?_eq_some_iff.mp h).1
  have hw : i < w := by
    have e : (TL.signs (txt w f)).length = w := by
      unfold TL.signs
      rw [List.length_map, Array.length_toList]
      exact txt_len
    omega
  unfold TL.signs at h
  rw [List.getElem?_map, txt_get hw] at h
  cases h
  exact ⟨hw, rfl⟩
theorem signs_len {w : Nat} {f : Nat → Nat} : (TL.signs (txt w f)).length = w := by
  unfold TL.signs
  rw [List.length_map, Array.length_toList]
  exact txt_len
section
variable {h w : Nat} {T : Nat → Nat → Nat}
theorem even_wc (h0 : 0 < h) (w0 : 0 < w) (h9 : h < 1000000) (w9 : w < 1000000) : WC Sp.m__has_even_rows 2 [lstS (tab h w T)] fun n d => n = false ∧ d = .bl true := by
  refine wc_of ?_
  unfold Sp.m__has_even_rows
  repeat (walk_at "ev1")
  rw [List.length_map, tab_len]
  refine ite_f (by rw [decide_eq_true_eq]; omega) ?_
  repeat (walk_at "ev1")
  refine ws_items (fun i g => ∃ o1, g = [.im (lstS (tab h w T)), opt o1]) ⟨none, rfl⟩ (fun i d g hi hv => ?_) fun g hv => ?_
  · obtain ⟨o1, rfl⟩ := hv
    obtain ⟨hi, rfl⟩ := tabS_at hi
    repeat (walk_at "ev1")
    refine wo_lenS txt_len (by unfold sizeLine; omega) ?_
    repeat (walk_at "ev1")
    refine ite_f (by rw [decide_eq_true_eq]; omega) ?_
    repeat (walk_at "ev1")
    refine wo_lenS txt_len (by unfold sizeLine; omega) ?_
    repeat (walk_at "ev1")
    refine wo_ixL (j := 0) (tabS_get h0) rfl ?_
    repeat (walk_at "ev1")
    refine wo_lenS txt_len (by unfold sizeLine; omega) ?_
    repeat (walk_at "ev1")
    rw [decide_eq_true rfl]
    repeat (walk_at "ev1")
    exact ⟨some _, rfl⟩
  · obtain ⟨o1, rfl⟩ := hv
    repeat (walk_at "ev1")
theorem signs_wc {f : Nat → Nat} (w9 : w < 1000000) (hs : ∀ j, j < w → 33 ≤ f j ∧ f j ≤ 126) : WC Sp.m__has_signs_only 2 [.str (txt w f)] fun n d => n = false ∧ d = .bl true := by
  refine wc_of ?_
  unfold Sp.m__has_signs_only
  repeat (walk_at "ev1")
  refine comp_pure (fun _ => .bl true) rfl (show 1 < 2 by decide) (by rw [signs_len]; unfold sizeLine; omega) (fun i d hi => ?_) ?_
  · obtain ⟨hi2, rfl⟩ := signs_get hi
    have := hs i hi2
    repeat (walk_at "ev1")
    rw [lt_lo this.1]
    repeat (walk_at "ev1")
    rw [lt_hi this.2]
    exact ⟨rfl, rfl⟩
  · repeat (walk_at "ev1")
    refine wo_allT ?_
    repeat (walk_at "ev1")
theorem little_ok (h0 : 0 < h) (w0 : 0 < w) (h9 : h < 1000000) (w9 : w < 1000000) (hT : SgT h w T) : WC Sp.m_is_little 2 [lstS (tab h w T)] fun n d => n = false ∧ d = .bl true := by
  refine wc_of ?_
  unfold Sp.m_is_little
  repeat (walk_at "ev1")
  refine (even_wc h0 w0 h9 w9).mono fun b d hh => ?_
  obtain ⟨rfl, rfl⟩ := hh
  repeat (walk_at "ev1")
  refine comp_pure (fun _ => .bl true) rfl (show 1 < 2 by decide) (by rw [List.length_map, tab_len]; unfold sizeLine; omega) (fun i d hi => ?_) ?_
  · obtain ⟨hi2, rfl⟩ := tabS_at hi
    repeat (walk_at "ev1")
    refine (signs_wc w9 (fun j hj => hT i j hi2 hj)).mono fun b d hh => ?_
    obtain ⟨rfl, rfl⟩ := hh
    exact ⟨rfl, rfl⟩
  · repeat (walk_at "ev1")
    refine wo_allT ?_
    repeat (walk_at "ev1")
theorem check_little_ok (h0 : 0 < h) (w0 : 0 < w) (h9 : h < 1000000) (w9 : w < 1000000) (hT : SgT h w T) : WC Sp.m_check_little 1 [lstS (tab h w T)] fun n d => d = .non := by
  refine wc_of ?_
  unfold Sp.m_check_little
  repeat (walk_at "ev1")
  refine (little_ok h0 w0 h9 w9 hT).mono fun b d hh => ?_
  obtain ⟨rfl, rfl⟩ := hh
  repeat (walk_at "ev1")
theorem is_mirrored_ok : ∀ (m : Bool) (t : Nat), t < 4 → WC Sp.m__is_mirrored 1 [.str (poseN m t)] fun n d => d = .bl m := by
  intro m t ht
  rcases m with _ | _ <;> (rcases t with _ | _ | _ | _ | t <;> first | omega | exact ⟨_, _, _, by with_unfolding_all rfl, rfl⟩)
theorem turns_of_ok : ∀ (m : Bool) (t : Nat), t < 4 → WC Sp.m__turns_of 1 [.str (poseN m t)] fun n d => d = .int t := by
  intro m t ht
  rcases m with _ | _ <;> (rcases t with _ | _ | _ | _ | t <;> first | omega | exact ⟨_, _, _, by with_unfolding_all rfl, rfl⟩)
end
end TL
set_option Elab.async false
set_option linter.all false
set_option maxRecDepth 100000
set_option maxHeartbeats 4000000
namespace TL
open PySem PySem.Spec PyProof.Rows L2
local macro_rules | `(tactic| walk_at "ev1") => `(tactic| first
  | with_reducible refine ws_seq.mpr ?_
  | with_reducible refine ws_next.mpr ?_
  | with_reducible refine ws_set ?_
  | with_reducible refine ws_setMu ?_
  | with_reducible refine ws_expr ?_
  | with_reducible refine ws_ret ?_
  | ((with_reducible refine ws_retMu ?_); refine ⟨_, rfl, ?_⟩)
  | with_reducible refine ws_if ?_
  | with_reducible refine ws_setIx ?_
  | with_reducible refine ws_asg ?_
  | with_reducible refine ws_for ?_
  | ((with_reducible refine ws_demote ?_); refine ⟨_, rfl, ?_⟩)
  | ((with_reducible refine we_var.mpr ?_); refine ⟨_, rfl, ?_⟩)
  | with_reducible refine we_c.mpr ?_
  | with_reducible refine we_bin.mpr ?_
  | with_reducible refine we_un.mpr ?_
  | with_reducible refine we_bool' ?_
  | with_reducible refine we_andT.mpr ?_
  | with_reducible refine we_orT.mpr ?_
  | with_reducible refine we_notT.mpr ?_
  | with_reducible refine we_andV.mpr ?_
  | with_reducible refine we_orV.mpr ?_
  | with_reducible refine we_notV.mpr ?_
  | with_reducible refine we_if.mpr ?_
  | with_reducible refine we_lst.mpr ?_
  | with_reducible refine we_tup.mpr ?_
  | with_reducible refine we_B.mpr ?_
  | with_reducible refine we_M.mpr ?_
  | with_reducible refine we_call.mpr ?_
  | ((with_reducible refine we_callIo.mpr ?_); refine ⟨⟨_, rfl⟩, ?_⟩)
  | ((with_reducible refine we_frz.mpr ?_); refine ⟨_, rfl, ?_⟩)
  | ((with_reducible refine we_rd.mpr ?_); refine ⟨⟨_, rfl⟩, ?_⟩)
  | ((with_reducible refine we_rd1.mpr ?_); refine ⟨_, rfl, ?_⟩)
  | ((with_reducible refine we_mut.mpr ?_); refine ⟨⟨_, rfl, rfl⟩, ?_⟩)
  | with_reducible refine we_chain.mpr ?_
  | with_reducible refine we_comp ?_
  | with_reducible refine we_sl ?_
  | with_reducible refine wpo_none ?_
  | with_reducible refine wpo_some ?_
  | with_reducible refine wa_nil.mpr ?_
  | with_reducible refine wa_cons.mpr ?_
  | with_reducible refine wa_items.mpr ?_
  | with_reducible refine wa_of' ?_
  | with_reducible refine wt_bl.mpr ?_
  | with_reducible refine wo_eqI ?_
  | with_reducible refine wo_neI ?_
  | with_reducible refine wo_eqB ?_
  | with_reducible refine wo_neB ?_
  | (with_reducible refine wo_fdiv (by omega) ?_)
  | (with_reducible refine wo_mod (by omega) ?_)
  | ((with_reducible refine wo_mul ?_ ?_); (focus first | (left; omega) | (right; omega)))
  | (refine wo_mk (n := _) (z := _) rfl ?_)
  | with_reducible refine ite_t rfl ?_
  | with_reducible refine ite_f (by decide) ?_
  | refine ⟨_, rfl, ?_⟩
  | refine ⟨rfl, ?_⟩
  | refine ⟨⟨rfl, rfl⟩, ?_⟩
  | refine ⟨⟨_, rfl⟩, ?_⟩
  | refine ⟨by decide, ?_⟩
  | refine ⟨by simp only [List.length_cons, List.length_nil]; decide, ?_⟩
  | refine ⟨by simp only [List.set_cons_succ, List.set_cons_zero, free_suc, free_opt, free_optM, free_im, free_mu, free_no, and_self], ?_⟩
  | refine ⟨_, put_at (by simp only [List.set_cons_succ, List.set_cons_zero, free_suc, free_opt, free_optM, free_im, free_mu, free_no, and_self]), ?_⟩
  | refine ⟨_, gtup2 (by simp only [List.set_cons_succ, List.set_cons_zero, free_suc, free_opt, free_optM, free_im, free_mu, free_no, and_self]) (by simp only [List.set_cons_succ, List.set_cons_zero, free_suc, free_opt, free_optM, free_im, free_mu, free_no, and_self]), ?_⟩
  | with_reducible exact rfl)
theorem revS_txt {w : Nat} {f : Nat → Nat} : revS (txt w f) = txt w fun j => f (w - 1 - j) := by
  unfold revS txt
  show (⟨((List.range w).map f).reverse.toArray⟩ : Str) = _
  congr 2
  rw [← List.map_reverse]
  apply List.ext_getElem
  · simp
  · intro i h1 h2
    simp
theorem tab_map {h w : Nat} {T : Nat → Nat → Nat} : ((List.range h).map fun i => D.str (txt w (T i))) = (tab h w T).map D.str := by
  unfold tab
  rw [List.map_map]
  rfl
section
variable {h w : Nat} {T : Nat → Nat → Nat}
theorem mirrored_ok (h9 : h < 1000000) (w9 : w < 1000000) : WC Sp.m__mirrored_rows 2 [lstS (tab h w T)] fun n d => n = true ∧ d = lstS (tab h w fun i j => T i (w - 1 - j)) := by
  refine wc_of ?_
  unfold Sp.m__mirrored_rows
  repeat (walk_at "ev1")
  refine comp_pure (fun i => .str (txt w fun j => T i (w - 1 - j))) rfl (show 1 < 2 by decide) (by rw [List.length_map, tab_len]; unfold sizeLine; omega) (fun i d hi => ?_) ?_
  · obtain ⟨hi2, rfl⟩ := tabS_at hi
    repeat (walk_at "ev1")
    refine wo_mk (if_pos (by rw [txt_len]; unfold sizeLine; omega)) ?_
    rw [revS_txt]
    exact ⟨rfl, rfl⟩
  · rw [List.length_map, tab_len, tab_map (T := fun i j => T i (w - 1 - j))]
    exact ⟨rfl, rfl⟩
theorem column_ok {j : Nat} (h9 : h < 1000000) (w9 : w < 1000000) (hj : j < w) : WC Sp.m__column_upwards 3 [lstS (tab h w T), .int j] fun n d => d = .str (txt h fun i => T (h - 1 - i) j) := by
  refine wc_of ?_
  unfold Sp.m__column_upwards
  repeat (walk_at "ev1")
  refine comp_pure (fun i => .str (sg (T (h - 1 - i) j))) rfl (show 2 < 3 by decide) (by rw [List.length_reverse, List.length_map, tab_len]; unfold sizeLine; omega) (fun i d hi => ?_) ?_
  · have hl := (List.getElem?_eq_some_iff.mp hi).1
    rw [List.length_reverse, List.length_map, tab_len] at hl
    rw [List.getElem?_reverse (by rw [List.length_map, tab_len]; exact hl), List.length_map, tab_len, tabS_get (by omega)] at hi
    cases hi
    repeat (walk_at "ev1")
    refine wo_ixS (txt_get hj) (by rw [txt_len]; unfold sizeLine; omega) rfl ?_
    exact ⟨rfl, rfl⟩
  · rw [List.length_reverse, List.length_map, tab_len]
    repeat (walk_at "ev1")
    rw [show ((List.range h).map fun i => D.str (sg (T (h - 1 - i) j))) = (((List.range h).map fun i => T (h - 1 - i) j).map sg).map D.str by rw [List.map_map, List.map_map]; rfl]
    refine wo_join (by rw [List.length_map, List.length_range]; omega) ?_
    repeat (walk_at "ev1")
    rfl
theorem turned_ok (h0 : 0 < h) (h9 : h < 1000000) (w9 : w < 1000000) : WC Sp.m__turned_rows 2 [lstS (tab h w T)] fun n d => n = true ∧ d = lstS (tab w h fun i j => T (h - 1 - j) i) := by
  refine wc_of ?_
  unfold Sp.m__turned_rows
  repeat (walk_at "ev1")
  refine wo_ixL (j := 0) (tabS_get h0) rfl ?_
  repeat (walk_at "ev1")
  refine wo_lenS txt_len (by unfold sizeLine; omega) ?_
  repeat (walk_at "ev1")
  refine wl_pureR (fun i => .str (txt h fun j => T (h - 1 - j) i)) w9 rfl (show 1 < 2 by decide) (fun i hi => ?_) ?_
  · repeat (walk_at "ev1")
    refine (column_ok h9 w9 hi).mono fun b d hh => ?_
    subst hh
    exact ⟨rfl, rfl⟩
  · rw [tab_map (T := fun i j => T (h - 1 - j) i)]
    exact ⟨rfl, rfl⟩
theorem turn_step {m : Bool} {k : Nat} (hk : k < 3) : tab (dim k w h) (dim k h w) (fun i j => inP m k h w T (dim k h w - 1 - j) i) = tab (dim (k + 1) h w) (dim (k + 1) w h) (inP m (k + 1) h w T) := by
  have e1 : dim (k + 1) h w = dim k w h := by rcases k with _ | _ | _ | k <;> first | omega | rfl
  have e2 : dim (k + 1) w h = dim k h w := by rcases k with _ | _ | _ | k <;> first | omega | rfl
  rw [e1, e2]
  refine tab_ext fun i j hi hj => ?_
  show T _ _ = T _ _
  have key : cellN m k h w (dim k h w - 1 - j) i = cellN m (k + 1) h w i j := by
    rcases m with _ | _ <;> (rcases k with _ | _ | _ | k <;> first | omega | (simp only [dim] at hi hj; refine Prod.ext ?_ ?_ <;> simp [cellN, mir, dim] <;> omega))
  rw [key]
theorem rows_in_pose_ok {m : Bool} {t : Nat} (ht : t < 4) (h0 : 0 < h) (w0 : 0 < w) (h9 : h < 1000) (w9 : w < 1000) : WC Sp.m_rows_in_pose 4 [lstS (tab h w T), .str (poseN m t)] fun n d => n = true ∧ d = lstS (tab (dim t h w) (dim t w h) (inP m t h w T)) := by
  refine wc_of ?_
  unfold Sp.m_rows_in_pose
  repeat (walk_at "ev1")
  refine (is_mirrored_ok m t ht).mono fun b d hh => ?_
  subst hh
  have key : ∀ P : Bool → D → G → Prop, P true (lstS (tab h w (inP m 0 h w T))) (argsG ([lstS (tab h w T), .str (poseN m t)].map .im) 4) → WT (.bl m) fun b => if b = true then WE (mCall Sp.m__mirrored_rows 2 (aCons (mVar 0) aNil)) (argsG ([lstS (tab h w T), .str (poseN m t)].map .im) 4) P else WE (mB listA (aCons (mVar 0) aNil)) (argsG ([lstS (tab h w T), .str (poseN m t)].map .im) 4) P := by
    intro P hP
    refine wt_bl.mpr (iteb (fun e => ?_) fun e => ?_)
    · subst e
      repeat (walk_at "ev1")
      refine (mirrored_ok (by omega) (by omega)).mono fun b d hh => ?_
      obtain ⟨rfl, rfl⟩ := hh
      exact hP
    · subst e
      repeat (walk_at "ev1")
      exact hP
  refine key _ ?_
  repeat (walk_at "ev1")
  refine (turns_of_ok m t ht).mono fun b d hh => ?_
  subst hh
  repeat (walk_at "ev1")
  refine ws_range (fun k g => ∃ o3, g = [.im (lstS (tab h w T)), .im (.str (poseN m t)), .mu (lstS (tab (dim k h w) (dim k w h) (inP m k h w T))), opt o3]) (by omega) ⟨none, rfl⟩ (fun k g hk hv => ?_) fun g hv => ?_
  · obtain ⟨o3, rfl⟩ := hv
    repeat (walk_at "ev1")
    refine (turned_ok (dim_pos h0 w0) (by have := dim_lt (t := k) h9 w9; omega) (by have := dim_lt (t := k) w9 h9; omega)).mono fun b d hh => ?_
    obtain ⟨rfl, rfl⟩ := hh
    rw [turn_step (by omega)]
    repeat (walk_at "ev1")
    exact ⟨some _, rfl⟩
  · obtain ⟨o3, rfl⟩ := hv
    repeat (walk_at "ev1")
end
end TL
set_option Elab.async false
set_option linter.all false
set_option maxRecDepth 100000
set_option maxHeartbeats 4000000
namespace TL
open PySem PySem.Spec PyProof.Rows L2
local macro_rules | `(tactic| walk_at "ev1") => `(tactic| first
  | with_reducible refine ws_seq.mpr ?_
  | with_reducible refine ws_next.mpr ?_
  | with_reducible refine ws_set ?_
  | with_reducible refine ws_setMu ?_
  | with_reducible refine ws_expr ?_
  | with_reducible refine ws_ret ?_
  | ((with_reducible refine ws_retMu ?_); refine ⟨_, rfl, ?_⟩)
  | with_reducible refine ws_if ?_
  | with_reducible refine ws_setIx ?_
  | with_reducible refine ws_asg ?_
  | with_reducible refine ws_for ?_
  | ((with_reducible refine ws_demote ?_); refine ⟨_, rfl, ?_⟩)
  | ((with_reducible refine we_var.mpr ?_); refine ⟨_, rfl, ?_⟩)
  | with_reducible refine we_c.mpr ?_
  | with_reducible refine we_bin.mpr ?_
  | with_reducible refine we_un.mpr ?_
  | with_reducible refine we_bool' ?_
  | with_reducible refine we_andT.mpr ?_
  | with_reducible refine we_orT.mpr ?_
  | with_reducible refine we_notT.mpr ?_
  | with_reducible refine we_andV.mpr ?_
  | with_reducible refine we_orV.mpr ?_
  | with_reducible refine we_notV.mpr ?_
  | with_reducible refine we_if.mpr ?_
  | with_reducible refine we_lst.mpr ?_
  | with_reducible refine we_tup.mpr ?_
  | with_reducible refine we_B.mpr ?_
  | with_reducible refine we_M.mpr ?_
  | with_reducible refine we_call.mpr ?_
  | ((with_reducible refine we_callIo.mpr ?_); refine ⟨⟨_, rfl⟩, ?_⟩)
  | ((with_reducible refine we_frz.mpr ?_); refine ⟨_, rfl, ?_⟩)
  | ((with_reducible refine we_rd.mpr ?_); refine ⟨⟨_, rfl⟩, ?_⟩)
  | ((with_reducible refine we_rd1.mpr ?_); refine ⟨_, rfl, ?_⟩)
  | ((with_reducible refine we_mut.mpr ?_); refine ⟨⟨_, rfl, rfl⟩, ?_⟩)
  | with_reducible refine we_chain.mpr ?_
  | with_reducible refine we_comp ?_
  | with_reducible refine we_sl ?_
  | with_reducible refine wpo_none ?_
  | with_reducible refine wpo_some ?_
  | with_reducible refine wa_nil.mpr ?_
  | with_reducible refine wa_cons.mpr ?_
  | with_reducible refine wa_items.mpr ?_
  | with_reducible refine wa_of' ?_
  | with_reducible refine wt_bl.mpr ?_
  | with_reducible refine wo_eqI ?_
  | with_reducible refine wo_neI ?_
  | with_reducible refine wo_eqB ?_
  | with_reducible refine wo_neB ?_
  | (with_reducible refine wo_fdiv (by omega) ?_)
  | (with_reducible refine wo_mod (by omega) ?_)
  | ((with_reducible refine wo_mul ?_ ?_); (focus first | (left; omega) | (right; omega)))
  | (refine wo_mk (n := _) (z := _) rfl ?_)
  | with_reducible refine ite_t rfl ?_
  | with_reducible refine ite_f (by decide) ?_
  | refine ⟨_, rfl, ?_⟩
  | refine ⟨rfl, ?_⟩
  | refine ⟨⟨rfl, rfl⟩, ?_⟩
  | refine ⟨⟨_, rfl⟩, ?_⟩
  | refine ⟨by decide, ?_⟩
  | refine ⟨by simp only [List.length_cons, List.length_nil]; decide, ?_⟩
  | refine ⟨by simp only [List.set_cons_succ, List.set_cons_zero, free_suc, free_opt, free_optM, free_im, free_mu, free_no, and_self], ?_⟩
  | refine ⟨_, put_at (by simp only [List.set_cons_succ, List.set_cons_zero, free_suc, free_opt, free_optM, free_im, free_mu, free_no, and_self]), ?_⟩
  | refine ⟨_, gtup2 (by simp only [List.set_cons_succ, List.set_cons_zero, free_suc, free_opt, free_optM, free_im, free_mu, free_no, and_self]) (by simp only [List.set_cons_succ, List.set_cons_zero, free_suc, free_opt, free_optM, free_im, free_mu, free_no, and_self]), ?_⟩
  | with_reducible exact rfl)
theorem row_snoc {j c : Nat} {f : Nat → Nat} : txt j f ++ sg c = txt (j + 1) fun i => if i < j then f i else c := by
  rw [← txt_snoc (f := fun i => if i < j then f i else c)]
  rw [txt_ext (f := f) (f' := fun i => if i < j then f i else c) fun i hi => (if_pos hi).symm]
  show _ = _ ++ (⟨#[if j < j then f j else c]⟩ : Str)
  rw [if_neg (Nat.lt_irrefl j)]
  rfl
theorem rows_snoc {i w : Nat} {T : Nat → Nat → Nat} {f : Nat → Nat} : tab i w T ++ [txt w f] = tab (i + 1) w fun a b => if a < i then T a b else f b := by
  rw [← tab_snoc]
  rw [tab_ext (T := T) (T' := fun a b => if a < i then T a b else f b) fun a b ha _ => (if_pos ha).symm]
  congr 2
  exact txt_ext fun b _ => (if_neg (Nat.lt_irrefl i)).symm
end TL
set_option Elab.async false
set_option linter.all false
set_option maxRecDepth 100000
set_option maxHeartbeats 4000000
namespace TL
open PySem PySem.Spec PyProof.Rows L2
local macro_rules | `(tactic| walk_at "ev1") => `(tactic| first
  | with_reducible refine ws_seq.mpr ?_
  | with_reducible refine ws_next.mpr ?_
  | with_reducible refine ws_set ?_
  | with_reducible refine ws_setMu ?_
  | with_reducible refine ws_expr ?_
  | with_reducible refine ws_ret ?_
  | ((with_reducible refine ws_retMu ?_); refine ⟨_, rfl, ?_⟩)
  | with_reducible refine ws_if ?_
  | with_reducible refine ws_setIx ?_
  | with_reducible refine ws_asg ?_
  | with_reducible refine ws_for ?_
  | ((with_reducible refine ws_demote ?_); refine ⟨_, rfl, ?_⟩)
  | ((with_reducible refine we_var.mpr ?_); refine ⟨_, rfl, ?_⟩)
  | with_reducible refine we_c.mpr ?_
  | with_reducible refine we_bin.mpr ?_
  | with_reducible refine we_un.mpr ?_
  | with_reducible refine we_bool' ?_
  | with_reducible refine we_andT.mpr ?_
  | with_reducible refine we_orT.mpr ?_
  | with_reducible refine we_notT.mpr ?_
  | with_reducible refine we_andV.mpr ?_
  | with_reducible refine we_orV.mpr ?_
  | with_reducible refine we_notV.mpr ?_
  | with_reducible refine we_if.mpr ?_
  | with_reducible refine we_lst.mpr ?_
  | with_reducible refine we_tup.mpr ?_
  | with_reducible refine we_B.mpr ?_
  | with_reducible refine we_M.mpr ?_
  | with_reducible refine we_call.mpr ?_
  | ((with_reducible refine we_callIo.mpr ?_); refine ⟨⟨_, rfl⟩, ?_⟩)
  | ((with_reducible refine we_frz.mpr ?_); refine ⟨_, rfl, ?_⟩)
  | ((with_reducible refine we_rd.mpr ?_); refine ⟨⟨_, rfl⟩, ?_⟩)
  | ((with_reducible refine we_rd1.mpr ?_); refine ⟨_, rfl, ?_⟩)
  | ((with_reducible refine we_mut.mpr ?_); refine ⟨⟨_, rfl, rfl⟩, ?_⟩)
  | with_reducible refine we_chain.mpr ?_
  | with_reducible refine we_comp ?_
  | with_reducible refine we_sl ?_
  | with_reducible refine wpo_none ?_
  | with_reducible refine wpo_some ?_
  | with_reducible refine wa_nil.mpr ?_
  | with_reducible refine wa_cons.mpr ?_
  | with_reducible refine wa_items.mpr ?_
  | with_reducible refine wa_of' ?_
  | with_reducible refine wt_bl.mpr ?_
  | with_reducible refine wo_eqI ?_
  | with_reducible refine wo_neI ?_
  | with_reducible refine wo_eqB ?_
  | with_reducible refine wo_neB ?_
  | (with_reducible refine wo_fdiv (by omega) ?_)
  | (with_reducible refine wo_mod (by omega) ?_)
  | ((with_reducible refine wo_mul ?_ ?_); (focus first | (left; omega) | (right; omega)))
  | (refine wo_mk (n := _) (z := _) rfl ?_)
  | with_reducible refine ite_t rfl ?_
  | with_reducible refine ite_f (by decide) ?_
  | refine ⟨_, rfl, ?_⟩
  | refine ⟨rfl, ?_⟩
  | refine ⟨⟨rfl, rfl⟩, ?_⟩
  | refine ⟨⟨_, rfl⟩, ?_⟩
  | refine ⟨by decide, ?_⟩
  | refine ⟨by simp only [List.length_cons, List.length_nil]; decide, ?_⟩
  | refine ⟨by simp only [List.set_cons_succ, List.set_cons_zero, free_suc, free_opt, free_optM, free_im, free_mu, free_no, and_self], ?_⟩
  | refine ⟨_, put_at (by simp only [List.set_cons_succ, List.set_cons_zero, free_suc, free_opt, free_optM, free_im, free_mu, free_no, and_self]), ?_⟩
  | refine ⟨_, gtup2 (by simp only [List.set_cons_succ, List.set_cons_zero, free_suc, free_opt, free_optM, free_im, free_mu, free_no, and_self]) (by simp only [List.set_cons_succ, List.set_cons_zero, free_suc, free_opt, free_optM, free_im, free_mu, free_no, and_self]), ?_⟩
  | with_reducible exact rfl)
theorem stir_ok {c k : Int} : WC Sg.m__law_stir 3 [.int c, .int k] fun b d => b = false ∧ ∃ n : Nat, d = .int n ∧ n < 2147483648 := by
  refine wc_of ?_
  unfold Sg.m__law_stir
  repeat (walk_at "ev1")
  generalize e1 : (c % 2147483629 + 9973 * k + 5) * 48271 % 2147483647 = x
  generalize e2 : x * x % 2147483587 = y
  generalize e3 : (y + 7919 * k) * 16807 % 2147483563 = z
  refine ⟨(z / 8).toNat, ?_, ?_⟩
  · rw [Int.toNat_of_nonneg (by omega)]
  · omega
def nat (n : Nat) : D := .int n
def DeckN (d : D) : Prop := ∃ xs : List Nat, d = .lst (xs.map nat) ∧ 0 < xs.length ∧ xs.length ≤ 1000 ∧ ∀ x ∈ xs, x < 2147483648
theorem ins_0 {ds : List D} {d : D} (h : ds.length < sizeLine) : insD (.lst ds) [.int 0, d] = some (.non, .lst (d :: ds)) := if_pos ⟨h, by decide, by decide⟩
theorem pop_last {xs : List Nat} {y : Nat} : popD (.lst ((xs ++ [y]).map nat)) [] = some (nat y, .lst (xs.map nat)) := by
  have e : ((xs ++ [y]).map nat)[((xs ++ [y]).map nat).length - 1]? = some (nat y) := by
    rw [List.map_append, List.length_append, List.length_map, List.getElem?_append_right (by rw [List.length_map]; exact Nat.le_of_eq rfl)]
    simp
  simp only [popD, e]
  rw [List.map_append]
  simp
theorem next_ok {d : D} (hd : DeckN d) : WCio Sg.m__law_next 1 d [] fun b r d' => b = false ∧ (∃ n : Nat, r = .int n ∧ n < 2147483648) ∧ DeckN d' := by
  obtain ⟨xs, rfl, h0, h9, hb⟩ := hd
  refine wcio_of ?_
  unfold Sg.m__law_next
  repeat (walk_at "ev1")
  rw [List.length_map]
  refine iteb (fun hy => ?_) fun hy => ?_
  · have hy := of_decide_eq_true hy
    match xs, h0, hy, hb with
    | [x], _, _, hb =>
      repeat (walk_at "ev1")
      refine stir_ok.mono fun b d hh => ?_
      obtain ⟨rfl, n, rfl, hn⟩ := hh
      repeat (walk_at "ev1")
      obtain ⟨q, hq, hq2⟩ : ∃ q : Nat, (n : Int) * (if decide (0 < (x : Int)) = true then 1 else 0) = q ∧ q < 2147483648 := by
        split
        · exact ⟨n, by rw [Int.mul_one], hn⟩
        · exact ⟨0, by rw [Int.mul_zero]; rfl, by omega⟩
      rw [hq]
      refine ⟨_, _, ins_0 (by show 1 < sizeLine; decide), ?_⟩
      repeat (walk_at "ev1")
      refine ⟨_, _, pop_last (xs := [q]) (y := x), ?_⟩
      repeat (walk_at "ev1")
      exact ⟨⟨x, rfl, hb x (List.mem_singleton.mpr rfl)⟩, [q], rfl, Nat.one_pos, (by show 1 ≤ 1000; decide), fun y hy => by rw [List.mem_singleton.mp hy]; exact hq2⟩
    | x :: y :: xs, _, hy, _ => exact absurd hy (by simp only [List.length_cons]; omega)
  · have hy : ¬ (xs.length : Int) = 1 := of_decide_eq_false hy
    repeat (walk_at "ev1")
    obtain ⟨ys, y, rfl⟩ : ∃ ys y, xs = ys ++ [y] := by
      rcases List.eq_nil_or_concat xs with h | ⟨ys, y, h⟩
      · rw [h] at h0; exact absurd h0 (by decide)
      · exact ⟨ys, y, by rw [h, List.concat_eq_append]⟩
    rw [List.length_append] at hy h0 h9
    simp only [List.length_singleton] at hy h0 h9
    refine ⟨_, _, pop_last, ?_⟩
    repeat (walk_at "ev1")
    exact ⟨⟨y, rfl, hb y (List.mem_append.mpr (.inr (List.mem_singleton.mpr rfl)))⟩, ys, rfl, by omega, by omega, fun z hz => hb z (List.mem_append.mpr (.inl hz))⟩
end TL
set_option Elab.async false
set_option linter.all false
set_option maxRecDepth 100000
set_option maxHeartbeats 4000000
namespace TL
open PySem PySem.Spec PyProof.Rows L2
local macro_rules | `(tactic| walk_at "ev1") => `(tactic| first
  | with_reducible refine ws_seq.mpr ?_
  | with_reducible refine ws_next.mpr ?_
  | with_reducible refine ws_set ?_
  | with_reducible refine ws_setMu ?_
  | with_reducible refine ws_expr ?_
  | with_reducible refine ws_ret ?_
  | ((with_reducible refine ws_retMu ?_); refine ⟨_, rfl, ?_⟩)
  | with_reducible refine ws_if ?_
  | with_reducible refine ws_setIx ?_
  | with_reducible refine ws_asg ?_
  | with_reducible refine ws_for ?_
  | ((with_reducible refine ws_demote ?_); refine ⟨_, rfl, ?_⟩)
  | ((with_reducible refine we_var.mpr ?_); refine ⟨_, rfl, ?_⟩)
  | with_reducible refine we_c.mpr ?_
  | with_reducible refine we_bin.mpr ?_
  | with_reducible refine we_un.mpr ?_
  | with_reducible refine we_bool' ?_
  | with_reducible refine we_andT.mpr ?_
  | with_reducible refine we_orT.mpr ?_
  | with_reducible refine we_notT.mpr ?_
  | with_reducible refine we_andV.mpr ?_
  | with_reducible refine we_orV.mpr ?_
  | with_reducible refine we_notV.mpr ?_
  | with_reducible refine we_if.mpr ?_
  | with_reducible refine we_lst.mpr ?_
  | with_reducible refine we_tup.mpr ?_
  | with_reducible refine we_B.mpr ?_
  | with_reducible refine we_M.mpr ?_
  | with_reducible refine we_call.mpr ?_
  | ((with_reducible refine we_callIo.mpr ?_); refine ⟨⟨_, rfl⟩, ?_⟩)
  | ((with_reducible refine we_frz.mpr ?_); refine ⟨_, rfl, ?_⟩)
  | ((with_reducible refine we_rd.mpr ?_); refine ⟨⟨_, rfl⟩, ?_⟩)
  | ((with_reducible refine we_rd1.mpr ?_); refine ⟨_, rfl, ?_⟩)
  | ((with_reducible refine we_mut.mpr ?_); refine ⟨⟨_, rfl, rfl⟩, ?_⟩)
  | with_reducible refine we_chain.mpr ?_
  | with_reducible refine we_comp ?_
  | with_reducible refine we_sl ?_
  | with_reducible refine wpo_none ?_
  | with_reducible refine wpo_some ?_
  | with_reducible refine wa_nil.mpr ?_
  | with_reducible refine wa_cons.mpr ?_
  | with_reducible refine wa_items.mpr ?_
  | with_reducible refine wa_of' ?_
  | with_reducible refine wt_bl.mpr ?_
  | with_reducible refine wo_eqI ?_
  | with_reducible refine wo_neI ?_
  | with_reducible refine wo_eqB ?_
  | with_reducible refine wo_neB ?_
  | (with_reducible refine wo_fdiv (by omega) ?_)
  | (with_reducible refine wo_mod (by omega) ?_)
  | ((with_reducible refine wo_mul ?_ ?_); (focus first | (left; omega) | (right; omega)))
  | (refine wo_mk (n := _) (z := _) rfl ?_)
  | with_reducible refine ite_t rfl ?_
  | with_reducible refine ite_f (by decide) ?_
  | refine ⟨_, rfl, ?_⟩
  | refine ⟨rfl, ?_⟩
  | refine ⟨⟨rfl, rfl⟩, ?_⟩
  | refine ⟨⟨_, rfl⟩, ?_⟩
  | refine ⟨by decide, ?_⟩
  | refine ⟨by simp only [List.length_cons, List.length_nil]; decide, ?_⟩
  | refine ⟨by simp only [List.set_cons_succ, List.set_cons_zero, free_suc, free_opt, free_optM, free_im, free_mu, free_no, and_self], ?_⟩
  | refine ⟨_, put_at (by simp only [List.set_cons_succ, List.set_cons_zero, free_suc, free_opt, free_optM, free_im, free_mu, free_no, and_self]), ?_⟩
  | refine ⟨_, gtup2 (by simp only [List.set_cons_succ, List.set_cons_zero, free_suc, free_opt, free_optM, free_im, free_mu, free_no, and_self]) (by simp only [List.set_cons_succ, List.set_cons_zero, free_suc, free_opt, free_optM, free_im, free_mu, free_no, and_self]), ?_⟩
  | with_reducible exact rfl)
def SgC (c : Nat) : Prop := (33 ≤ c ∧ c ≤ 126) ∧ c ≠ 63
def SgL (d : D) : Prop := ∃ cs : List Nat, d = .lst ((cs.map sg).map .str) ∧ 0 < cs.length ∧ cs.length ≤ 92 ∧ ∀ c ∈ cs, SgC c
theorem cutL_from {α : Type} (xs : List α) (a : Nat) : cutL xs (some (a : Int)) none = xs.drop a := by
  unfold cutL
  rw [HT.sIx_nat, HT.sIx_none]
  rw [List.take_of_length_le (by rw [List.length_drop]; exact Nat.le_refl _)]
  by_cases h : a ≤ xs.length
  · rw [Nat.min_eq_left h]
  · rw [Nat.min_eq_right (by omega), List.drop_length, List.drop_of_length_le (by omega)]
theorem cutL_to {α : Type} (xs : List α) (a : Nat) : cutL xs none (some (a : Int)) = xs.take a := by
  unfold cutL
  rw [HT.sIx_nat, HT.sIx_none, List.drop_zero, Nat.sub_zero]
  by_cases h : a ≤ xs.length
  · rw [Nat.min_eq_left h]
  · rw [Nat.min_eq_right (by omega), List.take_length, List.take_of_length_le (by omega)]
theorem modI (n m : Nat) (h : 0 < m) : ∃ q : Nat, (n : Int) % (m : Int) = q ∧ q < m := ⟨n % m, rfl, Nat.mod_lt _ h⟩
theorem manyL {x : Nat} (h : x < 7) : ∃ m : Nat, ([D.int 1, .int 2, .int 2, .int 3, .int 3, .int 12, .int 92] : List D)[x]? = some (.int m) ∧ 0 < m ∧ m ≤ 92 := by
  rcases x with _ | _ | _ | _ | _ | _ | _ | x <;> first | omega | exact ⟨1, rfl, by omega, by omega⟩ | exact ⟨2, rfl, by omega, by omega⟩ | exact ⟨3, rfl, by omega, by omega⟩ | exact ⟨12, rfl, by omega, by omega⟩ | exact ⟨92, rfl, by omega, by omega⟩
theorem allSigns : ∃ cs : List Nat, signs "!\"#$&'()*+,-./0123456789:;<=>@ABCDEFGHIJKLMNOPQRSTUVWXYZ[\\]^_`abcdefghijklmnopqrstuvwxyz{|}~" = (cs.map sg).map D.str ∧ cs.length = 92 ∧ ∀ c ∈ cs, SgC c :=
  ⟨Str.cps "!\"#$&'()*+,-./0123456789:;<=>@ABCDEFGHIJKLMNOPQRSTUVWXYZ[\\]^_`abcdefghijklmnopqrstuvwxyz{|}~" |>.toList, by rw [List.map_map]; rfl, by decide +kernel, by unfold SgC; decide +kernel⟩
theorem signs_ok {d : D} (hd : DeckN d) : WCio Sg.m__law_signs 5 d [] fun b r d' => b = true ∧ SgL r ∧ DeckN d' := by
  refine wcio_of ?_
  unfold Sg.m__law_signs
  repeat (walk_at "ev1")
  obtain ⟨cs, e, hc1, hc2⟩ := allSigns
  rw [e]
  refine (next_ok hd).mono fun b r d2 hh => ?_
  obtain ⟨rfl, ⟨n, rfl, hn⟩, hd⟩ := hh
  repeat (walk_at "ev1")
  obtain ⟨q, hq, hq2⟩ : ∃ q : Nat, (n : Int) % 7 = q ∧ q < 7 := modI n 7 (by decide)
  rw [hq]
  obtain ⟨many, e, hm0, hm1⟩ := manyL hq2
  refine wo_ixL e rfl ?_
  repeat (walk_at "ev1")
  refine iteb (fun hy => ?_) fun hy => ?_
  · repeat (walk_at "ev1")
    refine (next_ok hd).mono fun b r d3 hh => ?_
    obtain ⟨rfl, ⟨n, rfl, hn⟩, hd⟩ := hh
    repeat (walk_at "ev1")
    rw [List.length_map, List.length_map, hc1]
    repeat (walk_at "ev1")
    obtain ⟨q, hq, hq2⟩ : ∃ q : Nat, (n : Int) % ((92 : Nat) : Int) = q ∧ q < 92 := modI n 92 (by decide)
    rw [hq]
    repeat (walk_at "ev1")
    rw [cutL_from, cutL_to]
    refine wo_mk (if_pos (by simp only [List.length_drop, List.length_take, List.length_map]; unfold sizeLine; omega)) ?_
    repeat (walk_at "ev1")
    refine ⟨⟨cs.drop q ++ cs.take q, ?_, by rw [List.length_append, List.length_drop, List.length_take]; omega, by rw [List.length_append, List.length_drop, List.length_take]; omega, fun c hc => ?_⟩, hd⟩
    · rw [List.map_append, List.map_append, List.map_drop, List.map_drop, List.map_take, List.map_take]
    · rcases List.mem_append.mp hc with h | h
      · exact hc2 c (List.mem_of_mem_drop h)
      · exact hc2 c (List.mem_of_mem_take h)
  · have hy : ¬ (many : Int) = 92 := of_decide_eq_false hy
    clear e hq
    repeat (walk_at "ev1")
    generalize Str.ofString "!\"#$&'()*+,-./0123456789:;<=>@ABCDEFGHIJKLMNOPQRSTUVWXYZ[\\]^_`abcdefghijklmnopqrstuvwxyz{|}~" = S at *
    refine wl_compR (fun j acc g => ∃ p cs ds, acc = (ds.map sg).map D.str ∧ ds.length = j ∧ (∀ c ∈ ds, SgC c) ∧ g = [.io p, .mu (.lst ((cs.map sg).map .str)), .im (.int many), .no, .no] ∧ DeckN p ∧ cs.length + j = 92 ∧ (∀ c ∈ cs, SgC c))
      (by omega) ⟨d2, cs, [], rfl, rfl, (fun c hc => by cases hc), rfl, hd, hc1, hc2⟩ (fun j acc g hj hv => ?_) fun acc g2 hv => ?_
    · obtain ⟨p, cs, ds, rfl, hds, hdc, rfl, hd, hl, hc⟩ := hv
      repeat (walk_at "ev1")
      refine (next_ok hd).mono fun b r d3 hh => ?_
      obtain ⟨rfl, ⟨n, rfl, hn⟩, hd⟩ := hh
      repeat (walk_at "ev1")
      rw [List.length_map, List.length_map]
      have hl0 : 0 < cs.length := by omega
      repeat (walk_at "ev1")
      obtain ⟨x, hx, hx2⟩ := modI n cs.length hl0
      rw [hx]
      refine ⟨_, _, popSg hx2 (by omega), ?_⟩
      repeat (walk_at "ev1")
      refine ⟨⟨by simp only [List.length_map]; unfold sizeLine; omega, rfl⟩, _, cs.eraseIdx x, ds ++ [cs[x]], sg_snoc, by rw [List.length_append, hds]; rfl, ?_, rfl, hd, ?_, ?_⟩
      · intro c hcc
        rcases List.mem_append.mp hcc with h | h
        · exact hdc c h
        · rw [List.mem_singleton.mp h]; exact hc _ (List.getElem_mem _)
      · rw [List.length_eraseIdx_of_lt hx2]; omega
      · exact fun c hcc => hc c (List.mem_of_mem_eraseIdx hcc)
    · obtain ⟨p, cs, ds, rfl, hds, hdc, rfl, hd, hl, hc⟩ := hv
      repeat (walk_at "ev1")
      exact ⟨⟨ds, rfl, by omega, by omega, hdc⟩, hd⟩
end TL
set_option Elab.async false
set_option linter.all false
set_option maxRecDepth 100000
set_option maxHeartbeats 4000000
namespace TL
open PySem PySem.Spec PyProof.Rows L2
local macro_rules | `(tactic| walk_at "ev1") => `(tactic| first
  | with_reducible refine ws_seq.mpr ?_
  | with_reducible refine ws_next.mpr ?_
  | with_reducible refine ws_set ?_
  | with_reducible refine ws_setMu ?_
  | with_reducible refine ws_expr ?_
  | with_reducible refine ws_ret ?_
  | ((with_reducible refine ws_retMu ?_); refine ⟨_, rfl, ?_⟩)
  | with_reducible refine ws_if ?_
  | with_reducible refine ws_setIx ?_
  | with_reducible refine ws_asg ?_
  | with_reducible refine ws_for ?_
  | ((with_reducible refine ws_demote ?_); refine ⟨_, rfl, ?_⟩)
  | ((with_reducible refine we_var.mpr ?_); refine ⟨_, rfl, ?_⟩)
  | with_reducible refine we_c.mpr ?_
  | with_reducible refine we_bin.mpr ?_
  | with_reducible refine we_un.mpr ?_
  | with_reducible refine we_bool' ?_
  | with_reducible refine we_andT.mpr ?_
  | with_reducible refine we_orT.mpr ?_
  | with_reducible refine we_notT.mpr ?_
  | with_reducible refine we_andV.mpr ?_
  | with_reducible refine we_orV.mpr ?_
  | with_reducible refine we_notV.mpr ?_
  | with_reducible refine we_if.mpr ?_
  | with_reducible refine we_lst.mpr ?_
  | with_reducible refine we_tup.mpr ?_
  | with_reducible refine we_B.mpr ?_
  | with_reducible refine we_M.mpr ?_
  | with_reducible refine we_call.mpr ?_
  | ((with_reducible refine we_callIo.mpr ?_); refine ⟨⟨_, rfl⟩, ?_⟩)
  | ((with_reducible refine we_frz.mpr ?_); refine ⟨_, rfl, ?_⟩)
  | ((with_reducible refine we_rd.mpr ?_); refine ⟨⟨_, rfl⟩, ?_⟩)
  | ((with_reducible refine we_rd1.mpr ?_); refine ⟨_, rfl, ?_⟩)
  | ((with_reducible refine we_mut.mpr ?_); refine ⟨⟨_, rfl, rfl⟩, ?_⟩)
  | with_reducible refine we_chain.mpr ?_
  | with_reducible refine we_comp ?_
  | with_reducible refine we_sl ?_
  | with_reducible refine wpo_none ?_
  | with_reducible refine wpo_some ?_
  | with_reducible refine wa_nil.mpr ?_
  | with_reducible refine wa_cons.mpr ?_
  | with_reducible refine wa_items.mpr ?_
  | with_reducible refine wa_of' ?_
  | with_reducible refine wt_bl.mpr ?_
  | with_reducible refine wo_eqI ?_
  | with_reducible refine wo_neI ?_
  | with_reducible refine wo_eqB ?_
  | with_reducible refine wo_neB ?_
  | (with_reducible refine wo_fdiv (by omega) ?_)
  | (with_reducible refine wo_mod (by omega) ?_)
  | ((with_reducible refine wo_mul ?_ ?_); (focus first | (left; omega) | (right; omega)))
  | (refine wo_mk (n := _) (z := _) rfl ?_)
  | with_reducible refine ite_t rfl ?_
  | with_reducible refine ite_f (by decide) ?_
  | refine ⟨_, rfl, ?_⟩
  | refine ⟨rfl, ?_⟩
  | refine ⟨⟨rfl, rfl⟩, ?_⟩
  | refine ⟨⟨_, rfl⟩, ?_⟩
  | refine ⟨by decide, ?_⟩
  | refine ⟨by simp only [List.length_cons, List.length_nil]; decide, ?_⟩
  | refine ⟨by simp only [List.set_cons_succ, List.set_cons_zero, free_suc, free_opt, free_optM, free_im, free_mu, free_no, and_self], ?_⟩
  | refine ⟨_, put_at (by simp only [List.set_cons_succ, List.set_cons_zero, free_suc, free_opt, free_optM, free_im, free_mu, free_no, and_self]), ?_⟩
  | refine ⟨_, gtup2 (by simp only [List.set_cons_succ, List.set_cons_zero, free_suc, free_opt, free_optM, free_im, free_mu, free_no, and_self]) (by simp only [List.set_cons_succ, List.set_cons_zero, free_suc, free_opt, free_optM, free_im, free_mu, free_no, and_self]), ?_⟩
  | with_reducible exact rfl)
local macro_rules | `(tactic| walk_at "ev0") => `(tactic| simp only [argsG, List.map_cons, List.map_nil, List.length_cons, List.length_nil, Nat.reduceAdd, Nat.reduceSub, List.replicate_succ, List.replicate_zero, List.cons_append, List.nil_append, List.set_cons_succ, List.set_cons_zero])
theorem modZ (z : Int) (m : Nat) (h : 0 < m) : ∃ q : Nat, z % (m : Int) = q ∧ q < m :=
  ⟨(z % (m : Int)).toNat, (Int.toNat_of_nonneg (Int.emod_nonneg _ (by omega))).symm, by have := Int.emod_lt_of_pos z (show (0 : Int) < m by omega); omega⟩
def GT (h w : Nat) (T : Nat → Nat → Nat) : Prop := ∀ i j, i < h → j < w → SgC (T i j)
theorem GT.sg {h w : Nat} {T : Nat → Nat → Nat} (g : GT h w T) : SgT h w T := fun i j hi hj => (g i j hi hj).1
theorem row_sgP {P : Nat → Prop} {j c : Nat} {f : Nat → Nat} (hf : ∀ a, a < j → P (f a)) (hc : P c) : ∀ a, a < j + 1 → P (if a < j then f a else c) := by
  intro a ha
  split
  · exact hf a (by assumption)
  · exact hc
theorem rows_sgP {P : Nat → Prop} {i w : Nat} {T : Nat → Nat → Nat} {f : Nat → Nat} (hT : ∀ a b, a < i → b < w → P (T a b)) (hf : ∀ b, b < w → P (f b)) : ∀ a b, a < i + 1 → b < w → P (if a < i then T a b else f b) := by
  intro a b ha hb
  split
  · exact hT a b (by assumption) hb
  · exact hf b hb
theorem ix4 {x : Nat} (h : x < 4) (a b c d : Int) : ∃ z : Int, ([.int a, .int b, .int c, .int d] : List D)[x]? = some (.int z) := by
  rcases x with _ | _ | _ | _ | x <;> first | omega | exact ⟨_, rfl⟩
theorem sz_get {sz : List Nat} {x : Nat} (h : x < sz.length) : (sz.map nat)[x]? = some (.int (sz[x] : Nat)) := by
  rw [List.getElem?_map, List.getElem?_eq_getElem h]
  rfl
theorem great_ok {d : D} {sz : List Nat} (hd : DeckN d) (h0 : 0 < sz.length) (h9 : sz.length < 100) (hs : ∀ x ∈ sz, 0 < x ∧ x ≤ 40) :
    WCio Sg.m__law_great 15 d [.lst (sz.map nat)] fun b r d' => b = true ∧ (∃ h w T, r = lstS (tab h w T) ∧ GT h w T ∧ 0 < h ∧ h ≤ 40 ∧ 0 < w ∧ w ≤ 40) ∧ DeckN d' := by
  refine wcio_of ?_
  unfold Sg.m__law_great
  repeat (walk_at "ev1")
  refine (next_ok hd).mono fun b r d2 hh => ?_
  obtain ⟨rfl, ⟨n1, rfl, _⟩, hd⟩ := hh
  walk_at "ev0"
  repeat (walk_at "ev1")
  refine (next_ok hd).mono fun b r d2 hh => ?_
  obtain ⟨rfl, ⟨n2, rfl, _⟩, hd⟩ := hh
  repeat (walk_at "ev1")
  rw [List.length_map]
  repeat (walk_at "ev1")
  obtain ⟨x, hx, hx2⟩ := modI n2 sz.length h0
  rw [hx]
  refine wo_ixL (sz_get hx2) rfl ?_
  have hm := hs _ (List.getElem_mem hx2)
  generalize sz[x] = m at hm
  repeat (walk_at "ev1")
  obtain ⟨y, hy, hy2⟩ := modI n1 m hm.1
  rw [hy, show (1 : Int) + (y : Int) = ((1 + y : Nat) : Int) by omega]
  generalize eh : 1 + y = h
  have hh0 : 0 < h ∧ h ≤ 40 := by omega
  repeat (walk_at "ev1")
  refine (next_ok hd).mono fun b r d2 hh => ?_
  obtain ⟨rfl, ⟨n1, rfl, _⟩, hd⟩ := hh
  walk_at "ev0"
  repeat (walk_at "ev1")
  refine (next_ok hd).mono fun b r d2 hh => ?_
  obtain ⟨rfl, ⟨n2, rfl, _⟩, hd⟩ := hh
  repeat (walk_at "ev1")
  rw [List.length_map]
  repeat (walk_at "ev1")
  obtain ⟨x, hx, hx2⟩ := modI n2 sz.length h0
  rw [hx]
  refine wo_ixL (sz_get hx2) rfl ?_
  have hm := hs _ (List.getElem_mem hx2)
  generalize sz[x] = m at hm
  repeat (walk_at "ev1")
  obtain ⟨y, hy, hy2⟩ := modI n1 m hm.1
  rw [hy, show (1 : Int) + (y : Int) = ((1 + y : Nat) : Int) by omega]
  generalize ew : 1 + y = w
  have hw0 : 0 < w ∧ w ≤ 40 := by omega
  repeat (walk_at "ev1")
  refine (signs_ok hd).mono fun b r d2 hh => ?_
  obtain ⟨rfl, ⟨cs, rfl, hc0, hc9, hcs⟩, hd⟩ := hh
  repeat (walk_at "ev1")
  refine (next_ok hd).mono fun b r d2 hh => ?_
  obtain ⟨rfl, ⟨n, rfl, _⟩, hd⟩ := hh
  walk_at "ev0"
  repeat (walk_at "ev1")
  obtain ⟨way, hq, hway⟩ : ∃ q : Nat, (n : Int) % 4 = q ∧ q < 4 := modI n 4 (by decide)
  rw [hq]
  repeat (walk_at "ev1")
  refine (next_ok hd).mono fun b r d2 hh => ?_
  obtain ⟨rfl, ⟨seed, rfl, _⟩, hd⟩ := hh
  walk_at "ev0"
  repeat (walk_at "ev1")
  refine (next_ok hd).mono fun b r d2 hh => ?_
  obtain ⟨rfl, ⟨n, rfl, _⟩, hd⟩ := hh
  walk_at "ev0"
  repeat (walk_at "ev1")
  obtain ⟨a, hq, ha⟩ : ∃ q : Nat, (n : Int) % 5 = q ∧ q < 5 := modI n 5 (by decide)
  rw [hq]
  repeat (walk_at "ev1")
  refine (next_ok hd).mono fun b r d2 hh => ?_
  obtain ⟨rfl, ⟨n, rfl, _⟩, hd⟩ := hh
  walk_at "ev0"
  repeat (walk_at "ev1")
  obtain ⟨b, hq, hb⟩ : ∃ q : Nat, (n : Int) % 5 = q ∧ q < 5 := modI n 5 (by decide)
  rw [hq]
  repeat (walk_at "ev1")
  refine ws_range (fun i g => ∃ T o10 o11 o12 o13 o14, g = [.io d2, .im (.lst (sz.map nat)), .im (.int h), .im (.int w), .im (.lst ((cs.map sg).map .str)), .im (.int way), .im (.int seed), .im (.int a), .im (.int b), .mu (lstS (tab i w T)), opt o10, opt o11, opt o12, opt o13, opt o14] ∧ GT i w T)
    (by omega) ⟨fun _ _ => 0, none, none, none, none, none, ?_, fun i j hi => by omega⟩ (fun i g hi hv => ?_) fun g hv => ?_
  · rfl
  · obtain ⟨T, o10, o11, o12, o13, o14, rfl, hT⟩ := hv
    repeat (walk_at "ev1")
    walk_at "ev0"
    refine ws_range (fun j g => ∃ f o12 o13 o14, g = [.io d2, .im (.lst (sz.map nat)), .im (.int h), .im (.int w), .im (.lst ((cs.map sg).map .str)), .im (.int way), .im (.int seed), .im (.int a), .im (.int b), .mu (lstS (tab i w T)), .im (.int i), .im (.str (txt j f)), opt o12, opt o13, opt o14] ∧ ∀ x, x < j → SgC (f x))
      (by omega) ⟨fun _ => 0, o12, o13, o14, rfl, fun x hx => by omega⟩ (fun j g hj hv => ?_) fun g hv => ?_
    · obtain ⟨f, o12, o13, o14, rfl, hf⟩ := hv
      repeat (walk_at "ev1")
      refine stir_ok.mono fun b' r hh => ?_
      obtain ⟨rfl, num, rfl, _⟩ := hh
      walk_at "ev0"
      repeat (walk_at "ev1")
      obtain ⟨z, hz⟩ := ix4 hway num (i * a + j * b) (i / (1 + a) + j / (1 + b)) (num % 7 / 6)
      refine wo_ixL hz rfl ?_
      repeat (walk_at "ev1")
      rw [List.length_map, List.length_map]
      repeat (walk_at "ev1")
      obtain ⟨q, hq, hq2⟩ := modZ z cs.length hc0
      rw [hq]
      refine wo_ixL (d := .str (sg cs[q])) (by rw [List.getElem?_map, List.getElem?_map, List.getElem?_eq_getElem hq2]; rfl) rfl ?_
      repeat (walk_at "ev1")
      refine wo_addS (by rw [txt_len]; show j + 1 ≤ sizeLine; unfold sizeLine; omega) ?_
      rw [row_snoc]
      repeat (walk_at "ev1")
      exact ⟨_, some _, some _, some _, rfl, row_sgP hf (hcs _ (List.getElem_mem hq2))⟩
    · obtain ⟨f, o12, o13, o14, rfl, hf⟩ := hv
      repeat (walk_at "ev1")
      refine ⟨_, _, app_at (by rw [List.length_map, tab_len]; unfold sizeLine; omega), ?_⟩
      rw [lst_snoc, rows_snoc]
      repeat (walk_at "ev1")
      exact ⟨_, some _, some _, _, _, _, rfl, rows_sgP hT hf⟩
  · obtain ⟨T, o10, o11, o12, o13, o14, rfl, hT⟩ := hv
    repeat (walk_at "ev1")
    exact ⟨⟨h, w, T, rfl, hT, hh0.1, hh0.2, hw0.1, hw0.2⟩, hd⟩
end TL
set_option Elab.async false
set_option linter.all false
set_option maxRecDepth 100000
set_option maxHeartbeats 4000000
namespace TL
open PySem PySem.Spec PyProof.Rows L2
local macro_rules | `(tactic| walk_at "ev1") => `(tactic| first
  | with_reducible refine ws_seq.mpr ?_
  | with_reducible refine ws_next.mpr ?_
  | with_reducible refine ws_set ?_
  | with_reducible refine ws_setMu ?_
  | with_reducible refine ws_expr ?_
  | with_reducible refine ws_ret ?_
  | ((with_reducible refine ws_retMu ?_); refine ⟨_, rfl, ?_⟩)
  | with_reducible refine ws_if ?_
  | with_reducible refine ws_setIx ?_
  | with_reducible refine ws_asg ?_
  | with_reducible refine ws_for ?_
  | ((with_reducible refine ws_demote ?_); refine ⟨_, rfl, ?_⟩)
  | ((with_reducible refine we_var.mpr ?_); refine ⟨_, rfl, ?_⟩)
  | with_reducible refine we_c.mpr ?_
  | with_reducible refine we_bin.mpr ?_
  | with_reducible refine we_un.mpr ?_
  | with_reducible refine we_bool' ?_
  | with_reducible refine we_andT.mpr ?_
  | with_reducible refine we_orT.mpr ?_
  | with_reducible refine we_notT.mpr ?_
  | with_reducible refine we_andV.mpr ?_
  | with_reducible refine we_orV.mpr ?_
  | with_reducible refine we_notV.mpr ?_
  | with_reducible refine we_if.mpr ?_
  | with_reducible refine we_lst.mpr ?_
  | with_reducible refine we_tup.mpr ?_
  | with_reducible refine we_B.mpr ?_
  | with_reducible refine we_M.mpr ?_
  | with_reducible refine we_call.mpr ?_
  | ((with_reducible refine we_callIo.mpr ?_); refine ⟨⟨_, rfl⟩, ?_⟩)
  | ((with_reducible refine we_frz.mpr ?_); refine ⟨_, rfl, ?_⟩)
  | ((with_reducible refine we_rd.mpr ?_); refine ⟨⟨_, rfl⟩, ?_⟩)
  | ((with_reducible refine we_rd1.mpr ?_); refine ⟨_, rfl, ?_⟩)
  | ((with_reducible refine we_mut.mpr ?_); refine ⟨⟨_, rfl, rfl⟩, ?_⟩)
  | with_reducible refine we_chain.mpr ?_
  | with_reducible refine we_comp ?_
  | with_reducible refine we_sl ?_
  | with_reducible refine wpo_none ?_
  | with_reducible refine wpo_some ?_
  | with_reducible refine wa_nil.mpr ?_
  | with_reducible refine wa_cons.mpr ?_
  | with_reducible refine wa_items.mpr ?_
  | with_reducible refine wa_of' ?_
  | with_reducible refine wt_bl.mpr ?_
  | with_reducible refine wo_eqI ?_
  | with_reducible refine wo_neI ?_
  | with_reducible refine wo_eqB ?_
  | with_reducible refine wo_neB ?_
  | (with_reducible refine wo_fdiv (by omega) ?_)
  | (with_reducible refine wo_mod (by omega) ?_)
  | ((with_reducible refine wo_mul ?_ ?_); (focus first | (left; omega) | (right; omega)))
  | (refine wo_mk (n := _) (z := _) rfl ?_)
  | with_reducible refine ite_t rfl ?_
  | with_reducible refine ite_f (by decide) ?_
  | refine ⟨_, rfl, ?_⟩
  | refine ⟨rfl, ?_⟩
  | refine ⟨⟨rfl, rfl⟩, ?_⟩
  | refine ⟨⟨_, rfl⟩, ?_⟩
  | refine ⟨by decide, ?_⟩
  | refine ⟨by simp only [List.length_cons, List.length_nil]; decide, ?_⟩
  | refine ⟨by simp only [List.set_cons_succ, List.set_cons_zero, free_suc, free_opt, free_optM, free_im, free_mu, free_no, and_self], ?_⟩
  | refine ⟨_, put_at (by simp only [List.set_cons_succ, List.set_cons_zero, free_suc, free_opt, free_optM, free_im, free_mu, free_no, and_self]), ?_⟩
  | refine ⟨_, gtup2 (by simp only [List.set_cons_succ, List.set_cons_zero, free_suc, free_opt, free_optM, free_im, free_mu, free_no, and_self]) (by simp only [List.set_cons_succ, List.set_cons_zero, free_suc, free_opt, free_optM, free_im, free_mu, free_no, and_self]), ?_⟩
  | with_reducible exact rfl)
local macro_rules | `(tactic| walk_at "ev0") => `(tactic| simp only [argsG, List.map_cons, List.map_nil, List.length_cons, List.length_nil, Nat.reduceAdd, Nat.reduceSub, List.replicate_succ, List.replicate_zero, List.cons_append, List.nil_append, List.set_cons_succ, List.set_cons_zero])
theorem modP (z m : Int) (h : 0 < m) : ∃ q : Nat, z % m = q ∧ (q : Int) < m :=
  ⟨(z % m).toNat, (Int.toNat_of_nonneg (Int.emod_nonneg _ (by omega))).symm, by have := Int.emod_lt_of_pos z h; have := Int.emod_nonneg z (show m ≠ 0 by omega); omega⟩
end TL
set_option Elab.async false
set_option linter.all false
set_option maxRecDepth 100000
set_option maxHeartbeats 4000000
namespace TL
open PySem PySem.Spec PyProof.Rows L2
local macro_rules | `(tactic| walk_at "ev1") => `(tactic| first
  | with_reducible refine ws_seq.mpr ?_
  | with_reducible refine ws_next.mpr ?_
  | with_reducible refine ws_set ?_
  | with_reducible refine ws_setMu ?_
  | with_reducible refine ws_expr ?_
  | with_reducible refine ws_ret ?_
  | ((with_reducible refine ws_retMu ?_); refine ⟨_, rfl, ?_⟩)
  | with_reducible refine ws_if ?_
  | with_reducible refine ws_setIx ?_
  | with_reducible refine ws_asg ?_
  | with_reducible refine ws_for ?_
  | ((with_reducible refine ws_demote ?_); refine ⟨_, rfl, ?_⟩)
  | ((with_reducible refine we_var.mpr ?_); refine ⟨_, rfl, ?_⟩)
  | with_reducible refine we_c.mpr ?_
  | with_reducible refine we_bin.mpr ?_
  | with_reducible refine we_un.mpr ?_
  | with_reducible refine we_bool' ?_
  | with_reducible refine we_andT.mpr ?_
  | with_reducible refine we_orT.mpr ?_
  | with_reducible refine we_notT.mpr ?_
  | with_reducible refine we_andV.mpr ?_
  | with_reducible refine we_orV.mpr ?_
  | with_reducible refine we_notV.mpr ?_
  | with_reducible refine we_if.mpr ?_
  | with_reducible refine we_lst.mpr ?_
  | with_reducible refine we_tup.mpr ?_
  | with_reducible refine we_B.mpr ?_
  | with_reducible refine we_M.mpr ?_
  | with_reducible refine we_call.mpr ?_
  | ((with_reducible refine we_callIo.mpr ?_); refine ⟨⟨_, rfl⟩, ?_⟩)
  | ((with_reducible refine we_frz.mpr ?_); refine ⟨_, rfl, ?_⟩)
  | ((with_reducible refine we_rd.mpr ?_); refine ⟨⟨_, rfl⟩, ?_⟩)
  | ((with_reducible refine we_rd1.mpr ?_); refine ⟨_, rfl, ?_⟩)
  | ((with_reducible refine we_mut.mpr ?_); refine ⟨⟨_, rfl, rfl⟩, ?_⟩)
  | with_reducible refine we_chain.mpr ?_
  | with_reducible refine we_comp ?_
  | with_reducible refine we_sl ?_
  | with_reducible refine wpo_none ?_
  | with_reducible refine wpo_some ?_
  | with_reducible refine wa_nil.mpr ?_
  | with_reducible refine wa_cons.mpr ?_
  | with_reducible refine wa_items.mpr ?_
  | with_reducible refine wa_of' ?_
  | with_reducible refine wt_bl.mpr ?_
  | with_reducible refine wo_eqI ?_
  | with_reducible refine wo_neI ?_
  | with_reducible refine wo_eqB ?_
  | with_reducible refine wo_neB ?_
  | (with_reducible refine wo_fdiv (by omega) ?_)
  | (with_reducible refine wo_mod (by omega) ?_)
  | ((with_reducible refine wo_mul ?_ ?_); (focus first | (left; omega) | (right; omega)))
  | (refine wo_mk (n := _) (z := _) rfl ?_)
  | with_reducible refine ite_t rfl ?_
  | with_reducible refine ite_f (by decide) ?_
  | refine ⟨_, rfl, ?_⟩
  | refine ⟨rfl, ?_⟩
  | refine ⟨⟨rfl, rfl⟩, ?_⟩
  | refine ⟨⟨_, rfl⟩, ?_⟩
  | refine ⟨by decide, ?_⟩
  | refine ⟨by simp only [List.length_cons, List.length_nil]; decide, ?_⟩
  | refine ⟨by simp only [List.set_cons_succ, List.set_cons_zero, free_suc, free_opt, free_optM, free_im, free_mu, free_no, and_self], ?_⟩
  | refine ⟨_, put_at (by simp only [List.set_cons_succ, List.set_cons_zero, free_suc, free_opt, free_optM, free_im, free_mu, free_no, and_self]), ?_⟩
  | refine ⟨_, gtup2 (by simp only [List.set_cons_succ, List.set_cons_zero, free_suc, free_opt, free_optM, free_im, free_mu, free_no, and_self]) (by simp only [List.set_cons_succ, List.set_cons_zero, free_suc, free_opt, free_optM, free_im, free_mu, free_no, and_self]), ?_⟩
  | with_reducible exact rfl)
local macro_rules | `(tactic| walk_at "ev0") => `(tactic| simp only [argsG, List.map_cons, List.map_nil, List.length_cons, List.length_nil, Nat.reduceAdd, Nat.reduceSub, List.replicate_succ, List.replicate_zero, List.cons_append, List.nil_append, List.set_cons_succ, List.set_cons_zero])
theorem cutS_to (z : Str) (a : Nat) : (cutS z none (some (a : Int))).cps.toList = z.cps.toList.take a := by
  have e := cutL_to z.cps.toList a
  unfold cutL at e
  rw [Array.length_toList] at e
  unfold cutS
  exact e
theorem cutS_from (z : Str) (a : Nat) : (cutS z (some (a : Int)) none).cps.toList = z.cps.toList.drop a := by
  have e := cutL_from z.cps.toList a
  unfold cutL at e
  rw [Array.length_toList] at e
  unfold cutS
  exact e
theorem str_eq {x y : Str} (h : x.cps.toList = y.cps.toList) : x = y := by
  cases x; cases y
  congr 1
  exact Array.toList_inj.mp h
/-- one sign of a text otherwise -/
theorem put_sign {w c s : Nat} {f : Nat → Nat} (hc : c < w) : cutS (txt w f) none (some (c : Int)) ++ sg s ++ cutS (txt w f) (some ((c + 1 : Nat) : Int)) none = txt w fun k => if k = c then s else f k := by
  apply str_eq
  show ((cutS (txt w f) none (some (c : Int))).cps ++ #[s] ++ (cutS (txt w f) (some ((c + 1 : Nat) : Int)) none).cps).toList = _
  rw [Array.toList_append, Array.toList_append, cutS_to, cutS_from]
  show ((List.range w).map f).take c ++ [s] ++ ((List.range w).map f).drop (c + 1) = (List.range w).map fun k => if k = c then s else f k
  have e := List.set_eq_take_append_cons_drop (l := (List.range w).map f) (i := c) (a := s)
  rw [if_pos (by rw [List.length_map, List.length_range]; exact hc)] at e
  rw [List.append_assoc]
  refine Eq.trans e.symm ?_
  apply List.ext_getElem
  · simp
  · intro i h1 h2
    rw [List.getElem_set, List.getElem_map, List.getElem_range, List.getElem_map, List.getElem_range]
    by_cases e : c = i
    · subst e; simp
    · rw [if_neg e, if_neg fun z => e z.symm]
theorem tab_set {h w r : Nat} {T : Nat → Nat → Nat} {f : Nat → Nat} (hr : r < h) : ((tab h w T).map D.str).set r (.str (txt w f)) = (tab h w fun a b => if a = r then f b else T a b).map D.str := by
  rw [← tab_map, ← tab_map]
  apply List.ext_getElem
  · simp
  · intro i h1 h2
    rw [List.getElem_set, List.getElem_map, List.getElem_range, List.getElem_map, List.getElem_range]
    by_cases e : r = i
    · subst e
      rw [if_pos rfl]
      congr 1
      exact txt_ext fun j _ => (if_pos rfl).symm
    · rw [if_neg e]
      congr 1
      exact txt_ext fun j _ => (if_neg fun z => e z.symm).symm
end TL
set_option Elab.async false
set_option linter.all false
set_option maxRecDepth 100000
set_option maxHeartbeats 4000000
namespace TL
open PySem PySem.Spec PyProof.Rows L2
local macro_rules | `(tactic| walk_at "ev1") => `(tactic| first
  | with_reducible refine ws_seq.mpr ?_
  | with_reducible refine ws_next.mpr ?_
  | with_reducible refine ws_set ?_
  | with_reducible refine ws_setMu ?_
  | with_reducible refine ws_expr ?_
  | with_reducible refine ws_ret ?_
  | ((with_reducible refine ws_retMu ?_); refine ⟨_, rfl, ?_⟩)
  | with_reducible refine ws_if ?_
  | with_reducible refine ws_setIx ?_
  | with_reducible refine ws_asg ?_
  | with_reducible refine ws_for ?_
  | ((with_reducible refine ws_demote ?_); refine ⟨_, rfl, ?_⟩)
  | ((with_reducible refine we_var.mpr ?_); refine ⟨_, rfl, ?_⟩)
  | with_reducible refine we_c.mpr ?_
  | with_reducible refine we_bin.mpr ?_
  | with_reducible refine we_un.mpr ?_
  | with_reducible refine we_bool' ?_
  | with_reducible refine we_andT.mpr ?_
  | with_reducible refine we_orT.mpr ?_
  | with_reducible refine we_notT.mpr ?_
  | with_reducible refine we_andV.mpr ?_
  | with_reducible refine we_orV.mpr ?_
  | with_reducible refine we_notV.mpr ?_
  | with_reducible refine we_if.mpr ?_
  | with_reducible refine we_lst.mpr ?_
  | with_reducible refine we_tup.mpr ?_
  | with_reducible refine we_B.mpr ?_
  | with_reducible refine we_M.mpr ?_
  | with_reducible refine we_call.mpr ?_
  | ((with_reducible refine we_callIo.mpr ?_); refine ⟨⟨_, rfl⟩, ?_⟩)
  | ((with_reducible refine we_frz.mpr ?_); refine ⟨_, rfl, ?_⟩)
  | ((with_reducible refine we_rd.mpr ?_); refine ⟨⟨_, rfl⟩, ?_⟩)
  | ((with_reducible refine we_rd1.mpr ?_); refine ⟨_, rfl, ?_⟩)
  | ((with_reducible refine we_mut.mpr ?_); refine ⟨⟨_, rfl, rfl⟩, ?_⟩)
  | with_reducible refine we_chain.mpr ?_
  | with_reducible refine we_comp ?_
  | with_reducible refine we_sl ?_
  | with_reducible refine wpo_none ?_
  | with_reducible refine wpo_some ?_
  | with_reducible refine wa_nil.mpr ?_
  | with_reducible refine wa_cons.mpr ?_
  | with_reducible refine wa_items.mpr ?_
  | with_reducible refine wa_of' ?_
  | with_reducible refine wt_bl.mpr ?_
  | with_reducible refine wo_eqI ?_
  | with_reducible refine wo_neI ?_
  | with_reducible refine wo_eqB ?_
  | with_reducible refine wo_neB ?_
  | (with_reducible refine wo_fdiv (by omega) ?_)
  | (with_reducible refine wo_mod (by omega) ?_)
  | ((with_reducible refine wo_mul ?_ ?_); (focus first | (left; omega) | (right; omega)))
  | (refine wo_mk (n := _) (z := _) rfl ?_)
  | with_reducible refine ite_t rfl ?_
  | with_reducible refine ite_f (by decide) ?_
  | refine ⟨_, rfl, ?_⟩
  | refine ⟨rfl, ?_⟩
  | refine ⟨⟨rfl, rfl⟩, ?_⟩
  | refine ⟨⟨_, rfl⟩, ?_⟩
  | refine ⟨by decide, ?_⟩
  | refine ⟨by simp only [List.length_cons, List.length_nil]; decide, ?_⟩
  | refine ⟨by simp only [List.set_cons_succ, List.set_cons_zero, free_suc, free_opt, free_optM, free_im, free_mu, free_no, and_self], ?_⟩
  | refine ⟨_, put_at (by simp only [List.set_cons_succ, List.set_cons_zero, free_suc, free_opt, free_optM, free_im, free_mu, free_no, and_self]), ?_⟩
  | refine ⟨_, gtup2 (by simp only [List.set_cons_succ, List.set_cons_zero, free_suc, free_opt, free_optM, free_im, free_mu, free_no, and_self]) (by simp only [List.set_cons_succ, List.set_cons_zero, free_suc, free_opt, free_optM, free_im, free_mu, free_no, and_self]), ?_⟩
  | with_reducible exact rfl)
local macro_rules | `(tactic| walk_at "ev0") => `(tactic| simp only [argsG, List.map_cons, List.map_nil, List.length_cons, List.length_nil, Nat.reduceAdd, Nat.reduceSub, List.replicate_succ, List.replicate_zero, List.cons_append, List.nil_append, List.set_cons_succ, List.set_cons_zero])
theorem sg_ok {c : Nat} (h : c < 1114112) : PyData.strOk (sg c) = true := by
  unfold PyData.strOk sg
  rw [Array.all_eq_true']
  intro x hx
  have hx : x = c := by simpa using hx
  rw [hx]
  exact decide_eq_true h
theorem sg_inj {c d : Nat} : sg c = sg d ↔ c = d := ⟨fun h => by
  have h2 : (sg c).cps.toList = (sg d).cps.toList := by rw [h]
  have h3 : [c] = [d] := h2
  simpa using h3, fun h => by rw [h]⟩
theorem in_txt {w c : Nat} {f : Nat → Nat} : inStr (sg c) (txt w f) = decide (∃ j, j < w ∧ f j = c) := by
  unfold inStr
  rw [show sg c = ⟨#[c]⟩ from rfl, PySem.StrLaws.found_one]
  rw [decide_eq_decide]
  constructor
  · intro h
    have h : c ∈ (List.range w).map f := by simpa [txt] using h
    obtain ⟨j, hj, e⟩ := List.mem_map.mp h
    exact ⟨j, List.mem_range.mp hj, e⟩
  · rintro ⟨j, hj, e⟩
    have h : c ∈ (List.range w).map f := List.mem_map.mpr ⟨j, List.mem_range.mpr hj, e⟩
    simpa [txt] using h
/-- a truth tells P -/
def Tells (b : Bool) (P : Prop) : Prop := (b = true ↔ P) ∨ False
theorem Tells.iff {b : Bool} {P : Prop} (h : Tells b P) : b = true ↔ P := h.elim id False.elim
theorem tells {b : Bool} {P : Prop} (h : b = true ↔ P) : Tells b P := .inl h
theorem tells_f {P : Prop} (h : ¬ P) : Tells false P := .inl ⟨(fun z => by cases z), fun z => absurd z h⟩
section
variable {h w h' w' : Nat} {T L : Nat → Nat → Nat}
theorem is_table_ok (h0 : 0 < h) (w0 : 0 < w) (h9 : h < 1000000) (w9 : w < 1000000) (hT : GT h w T) : WC Sp.m_is_table 2 [lstS (tab h w T)] fun n d => n = false ∧ d = .bl true := by
  refine wc_of ?_
  unfold Sp.m_is_table
  repeat (walk_at "ev1")
  refine (little_ok h0 w0 h9 w9 hT.sg).mono fun b d hh => ?_
  obtain ⟨rfl, rfl⟩ := hh
  repeat (walk_at "ev1")
  refine comp_pure (fun _ => .bl true) rfl (show 1 < 2 by decide) (by rw [List.length_map, tab_len]; unfold sizeLine; omega) (fun i d hi => ?_) ?_
  · obtain ⟨hi2, rfl⟩ := tabS_at hi
    have e : inStr "?" (txt w (T i)) = false := by
      rw [show ("?" : Str) = sg 63 from rfl, in_txt]
      exact decide_eq_false fun ⟨j, hj, e⟩ => (hT i j hi2 hj).2 e
    repeat (walk_at "ev1")
    rw [show inStr (Str.ofString "?") (txt w (T i)) = false from e]
    exact ⟨rfl, rfl⟩
  · repeat (walk_at "ev1")
    refine wo_allT ?_
    repeat (walk_at "ev1")
theorem check_table_ok (h0 : 0 < h) (w0 : 0 < w) (h9 : h < 1000000) (w9 : w < 1000000) (hT : GT h w T) : WC Sp.m_check_table 1 [lstS (tab h w T)] fun n d => d = .non := by
  refine wc_of ?_
  unfold Sp.m_check_table
  repeat (walk_at "ev1")
  refine (is_table_ok h0 w0 h9 w9 hT).mono fun b d hh => ?_
  obtain ⟨rfl, rfl⟩ := hh
  repeat (walk_at "ev1")
theorem check_both_ok (h0 : 0 < h) (w0 : 0 < w) (h9 : h < 1000000) (w9 : w < 1000000) (hT : GT h w T) (h0' : 0 < h') (w0' : 0 < w') (h9' : h' < 1000000) (w9' : w' < 1000000) (hL : SgT h' w' L) :
    WC Sp.m_check_both 2 [lstS (tab h w T), lstS (tab h' w' L)] fun n d => d = .non := by
  refine wc_of ?_
  unfold Sp.m_check_both
  repeat (walk_at "ev1")
  refine (check_table_ok h0 w0 h9 w9 hT).mono fun b d hh => ?_
  subst hh
  repeat (walk_at "ev1")
  refine (check_little_ok h0' w0' h9' w9' hL).mono fun b d hh => ?_
  subst hh
  repeat (walk_at "ev1")
/-- a cell with its sign -/
def celD (L : Nat → Nat → Nat) (p : Nat × Nat) : D := .tup [.int p.1, .int p.2, .str (sg (L p.1 p.2))]
theorem lies_ok {i j : Int} (h0 : 0 < h) (h0' : 0 < h') (w9 : w < 1000000) (w9' : w' < 1000000) : WC Sp.m__lies_wholly 5 [lstS (tab h w T), lstS (tab h' w' L), .tup [.int i, .int j]] fun n d => n = false ∧ ∃ b : Bool, d = .bl b ∧ Tells b (0 ≤ i ∧ 0 ≤ j ∧ i + h' ≤ h ∧ j + w' ≤ w) := by
  refine wc_of ?_
  unfold Sp.m__lies_wholly
  repeat (walk_at "ev1")
  refine iteb (fun hy => ?_) fun hy => ?_
  · have hy := of_decide_eq_true hy
    repeat (walk_at "ev1")
    exact tells_f (by omega)
  · have hy := of_decide_eq_false hy
    repeat (walk_at "ev1")
    refine iteb (fun hz => ?_) fun hz => ?_
    · have hz := of_decide_eq_true hz
      repeat (walk_at "ev1")
      exact tells_f (by omega)
    · have hz := of_decide_eq_false hz
      repeat (walk_at "ev1")
      simp only [List.length_map, tab_len]
      refine iteb (fun hu => ?_) fun hu => ?_
      · have hu := of_decide_eq_true hu
        repeat (walk_at "ev1")
        refine wo_ixL (j := 0) (tabS_get h0') rfl ?_
        repeat (walk_at "ev1")
        refine wo_lenS txt_len (by unfold sizeLine; omega) ?_
        repeat (walk_at "ev1")
        refine wo_ixL (j := 0) (tabS_get h0) rfl ?_
        repeat (walk_at "ev1")
        refine wo_lenS txt_len (by unfold sizeLine; omega) ?_
        repeat (walk_at "ev1")
        exact tells (by rw [decide_eq_true_eq]; omega)
      · have hu := of_decide_eq_false hu
        repeat (walk_at "ev1")
        exact tells_f (by omega)
end
end TL
set_option Elab.async false
set_option linter.all false
set_option maxRecDepth 100000
set_option maxHeartbeats 4000000
namespace TL
open PySem PySem.Spec PyProof.Rows L2
local macro_rules | `(tactic| walk_at "ev1") => `(tactic| first
  | with_reducible refine ws_seq.mpr ?_
  | with_reducible refine ws_next.mpr ?_
  | with_reducible refine ws_set ?_
  | with_reducible refine ws_setMu ?_
  | with_reducible refine ws_expr ?_
  | with_reducible refine ws_ret ?_
  | ((with_reducible refine ws_retMu ?_); refine ⟨_, rfl, ?_⟩)
  | with_reducible refine ws_if ?_
  | with_reducible refine ws_setIx ?_
  | with_reducible refine ws_asg ?_
  | with_reducible refine ws_for ?_
  | ((with_reducible refine ws_demote ?_); refine ⟨_, rfl, ?_⟩)
  | ((with_reducible refine we_var.mpr ?_); refine ⟨_, rfl, ?_⟩)
  | with_reducible refine we_c.mpr ?_
  | with_reducible refine we_bin.mpr ?_
  | with_reducible refine we_un.mpr ?_
  | with_reducible refine we_bool' ?_
  | with_reducible refine we_andT.mpr ?_
  | with_reducible refine we_orT.mpr ?_
  | with_reducible refine we_notT.mpr ?_
  | with_reducible refine we_andV.mpr ?_
  | with_reducible refine we_orV.mpr ?_
  | with_reducible refine we_notV.mpr ?_
  | with_reducible refine we_if.mpr ?_
  | with_reducible refine we_lst.mpr ?_
  | with_reducible refine we_tup.mpr ?_
  | with_reducible refine we_B.mpr ?_
  | with_reducible refine we_M.mpr ?_
  | with_reducible refine we_call.mpr ?_
  | ((with_reducible refine we_callIo.mpr ?_); refine ⟨⟨_, rfl⟩, ?_⟩)
  | ((with_reducible refine we_frz.mpr ?_); refine ⟨_, rfl, ?_⟩)
  | ((with_reducible refine we_rd.mpr ?_); refine ⟨⟨_, rfl⟩, ?_⟩)
  | ((with_reducible refine we_rd1.mpr ?_); refine ⟨_, rfl, ?_⟩)
  | ((with_reducible refine we_mut.mpr ?_); refine ⟨⟨_, rfl, rfl⟩, ?_⟩)
  | with_reducible refine we_chain.mpr ?_
  | with_reducible refine we_comp ?_
  | with_reducible refine we_sl ?_
  | with_reducible refine wpo_none ?_
  | with_reducible refine wpo_some ?_
  | with_reducible refine wa_nil.mpr ?_
  | with_reducible refine wa_cons.mpr ?_
  | with_reducible refine wa_items.mpr ?_
  | with_reducible refine wa_of' ?_
  | with_reducible refine wt_bl.mpr ?_
  | with_reducible refine wo_eqI ?_
  | with_reducible refine wo_neI ?_
  | with_reducible refine wo_eqB ?_
  | with_reducible refine wo_neB ?_
  | (with_reducible refine wo_fdiv (by omega) ?_)
  | (with_reducible refine wo_mod (by omega) ?_)
  | ((with_reducible refine wo_mul ?_ ?_); (focus first | (left; omega) | (right; omega)))
  | (refine wo_mk (n := _) (z := _) rfl ?_)
  | with_reducible refine ite_t rfl ?_
  | with_reducible refine ite_f (by decide) ?_
  | refine ⟨_, rfl, ?_⟩
  | refine ⟨rfl, ?_⟩
  | refine ⟨⟨rfl, rfl⟩, ?_⟩
  | refine ⟨⟨_, rfl⟩, ?_⟩
  | refine ⟨by decide, ?_⟩
  | refine ⟨by simp only [List.length_cons, List.length_nil]; decide, ?_⟩
  | refine ⟨by simp only [List.set_cons_succ, List.set_cons_zero, free_suc, free_opt, free_optM, free_im, free_mu, free_no, and_self], ?_⟩
  | refine ⟨_, put_at (by simp only [List.set_cons_succ, List.set_cons_zero, free_suc, free_opt, free_optM, free_im, free_mu, free_no, and_self]), ?_⟩
  | refine ⟨_, gtup2 (by simp only [List.set_cons_succ, List.set_cons_zero, free_suc, free_opt, free_optM, free_im, free_mu, free_no, and_self]) (by simp only [List.set_cons_succ, List.set_cons_zero, free_suc, free_opt, free_optM, free_im, free_mu, free_no, and_self]), ?_⟩
  | with_reducible exact rfl)
local macro_rules | `(tactic| walk_at "ev0") => `(tactic| simp only [argsG, List.map_cons, List.map_nil, List.length_cons, List.length_nil, Nat.reduceAdd, Nat.reduceSub, List.replicate_succ, List.replicate_zero, List.cons_append, List.nil_append, List.set_cons_succ, List.set_cons_zero])
/-- a comprehension with a test, whose turns change nothing -/
theorem comp_filterL {α : Type} {xs : List α} {F F' : α → D} {P : α → Bool} {g : G} {v : Nat} {c e : MF} {Q : List D → G → Prop} (hp : plain? g [v] = true) (hv : v < g.length) (hz : xs.length ≤ sizeLine)
    (hc : ∀ x ∈ xs, WE c ((g.set v .no).set v (.im (F x))) fun _ r g3 => r = .bl (P x) ∧ g3 = (g.set v .no).set v (.im (F x)))
    (he : ∀ x ∈ xs, P x = true → WE e ((g.set v .no).set v (.im (F x))) fun _ r g3 => r = F' x ∧ g3 = (g.set v .no).set v (.im (F x))) (k : Q ((xs.filter P).map F') g) :
    ∃ acc g2, compL (putIm v) (some c) e [v] (xs.map F) [] g = some (acc, g2) ∧ shape g2 = shape g ∧ Q acc g2 := by
  obtain ⟨acc, g2, h1, h2, h3⟩ := compL_ind (tg := putIm v) (c := some c) (e := e) (vs := [v]) (fun k acc g' => acc = ((xs.take k).filter P).map F' ∧ g' = g) (xs.map F) 0 [] g ⟨rfl, rfl⟩ (fun i d acc g' hi hI => by
    obtain ⟨rfl, rfl⟩ := hI
    rw [List.getElem?_map] at hi
    obtain ⟨x, hx, rfl⟩ := Option.map_eq_some_iff.mp hi
    have hl := (List.getElem?_eq_some_iff.mp hx).1
    have hm := List.mem_of_getElem? hx
    rw [Nat.zero_add]
    have hv2 : v < (g'.set v SD.no).length := by rw [List.length_set]; exact hv
    have hfl : ((xs.take i).filter P).length ≤ i := by
      have a := List.length_filter_le P (xs.take i)
      rw [List.length_take] at a
      omega
    have ht : xs.take (i + 1) = xs.take i ++ [x] := by rw [List.take_succ, hx]; rfl
    refine ⟨hp, (g'.set v .no).set v (.im (F x)), put_at ?_, (hc x hm).mono fun n r g2 h => ?_⟩
    · show free? (g'.set v .no) v = true
      unfold free?
      rw [List.getElem?_eq_getElem hv2, List.getElem_set_self]
    · obtain ⟨rfl, rfl⟩ := h
      refine wt_bl.mpr (iteb (fun hP => ?_) fun hP => ?_)
      · refine (he x hm hP).mono fun n r g3 h => ?_
        obtain ⟨rfl, rfl⟩ := h
        refine ⟨⟨by rw [List.length_map]; omega, by rw [List.length_set, List.length_set]⟩, ?_, set_back hv⟩
        rw [ht, List.filter_append, List.map_append, List.filter_cons_of_pos hP]
        rfl
      · refine ⟨by rw [List.length_set, List.length_set], ?_, set_back hv⟩
        rw [ht, List.filter_append, List.map_append, List.filter_cons_of_neg (by rw [hP]; decide)]
        rw [List.filter_nil, List.map_nil, List.append_nil])
  rw [Nat.zero_add, List.length_map, List.take_length] at h2
  subst h2 h3
  exact ⟨_, _, h1, rfl, k⟩
/-- comprehensions with two for -/
theorem compL2_ind {tg tg1 : D → G → Option G} {it1 : MA} {e : MF} {vs vs1 : List Nat} (Inv : Nat → List D → G → Prop) : ∀ (ds : List D) (k : Nat) (acc : List D) (g : G), Inv k acc g →
    (∀ i d acc g, ds[i]? = some d → Inv (k + i) acc g → plain? g vs = true ∧ ∃ g1, tg d (wipeG g vs) = some g1 ∧ WA it1 g1 fun ds1 g2 => ∃ acc' g3, compL tg1 none e vs1 ds1 acc g2 = some (acc', g3) ∧ g3.length = g.length ∧ Inv (k + i + 1) acc' (backG g g3 vs)) →
    ∃ acc' g', compL2 tg it1 tg1 e vs vs1 ds acc g = some (acc', g') ∧ Inv (k + ds.length) acc' g'
  | [], k, acc, g, h0, _ => ⟨acc, g, rfl, h0⟩
  | d :: ds, k, acc, g, h0, hs => by
    obtain ⟨hp, g1, e1, ds1, g2, e2, acc', g3, e3, hl, hI⟩ := hs 0 d acc g rfl h0
    obtain ⟨acc2, g4, q, w⟩ := compL2_ind Inv ds (k + 1) acc' (backG g g3 vs) hI (fun i d acc g hi hv => by
      have e : k + 1 + i = k + (i + 1) := by omega
      rw [e] at hv ⊢
      exact hs (i + 1) d acc g hi hv)
    refine ⟨acc2, g4, ?_, by rw [List.length_cons, show k + (ds.length + 1) = k + 1 + ds.length by omega]; exact w⟩
    unfold compL2
    simp only [if_pos hp, e1, e2, e3, if_pos hl]
    exact q
theorem we_comp2 {it it1 : MA} {tg tg1 : D → G → Option G} {e : MF} {vs vs1 : List Nat} {g : G} {P : Bool → D → G → Prop} (h : WA it g fun ds g1 => ∃ acc g2, compL2 tg it1 tg1 e vs vs1 ds [] g1 = some (acc, g2) ∧ shape g2 = shape g1 ∧ P true (.lst acc) g2) : WE (mComp2 it tg it1 tg1 e vs vs1) g P := by
  obtain ⟨ds, g1, e1, acc, g2, e2, hs, p⟩ := h
  exact ⟨_, _, _, by simp only [mComp2, e1, e2, compF, if_pos hs], p⟩
def cD (p : Nat × Nat) : D := .tup [.int p.1, .int p.2]
def cellsL (h w : Nat) (P : Nat → Nat → Bool) : List (Nat × Nat) := (List.range h).flatMap fun i => ((List.range w).filter (P i)).map fun j => (i, j)
theorem cellsL_succ {h w : Nat} {P : Nat → Nat → Bool} : cellsL (h + 1) w P = cellsL h w P ++ ((List.range w).filter (P h)).map fun j => (h, j) := by
  unfold cellsL
  rw [List.range_succ, List.flatMap_append, List.flatMap_cons, List.flatMap_nil, List.append_nil]
theorem cellsL_len {h w : Nat} {P : Nat → Nat → Bool} : (cellsL h w P).length ≤ h * w := by
  induction h with
  | zero => exact Nat.zero_le _
  | succ h ih =>
    rw [cellsL_succ, List.length_append, List.length_map, Nat.succ_mul]
    have a := List.length_filter_le (P h) (List.range w)
    rw [List.length_range] at a
    omega
theorem range1_int {z : Int} (h1 : -1000000 < z) (h2 : z < 1000000) : range1D [.int z] = some (rangeL 0 z.toNat) := by
  have h : ok62 z = true := decide_eq_true ⟨by omega, by omega⟩
  simp only [range1D, if_pos h]
section
variable {h w h' w' : Nat} {T L : Nat → Nat → Nat}
theorem lie_ok (h0 : 0 < h) (h0' : 0 < h') (h9 : h < 100) (w9 : w < 100) (h9' : h' < 100) (w9' : w' < 100) : WC Sp.m_cells_to_lie_at 6 [lstS (tab h w T), lstS (tab h' w' L)] fun n d => n = true ∧ d = .lst ((cellsL (h + 1 - h') (w + 1 - w') fun _ _ => true).map cD) := by
  refine wc_of ?_
  unfold Sp.m_cells_to_lie_at
  repeat (walk_at "ev1")
  simp only [List.length_map, tab_len]
  repeat (walk_at "ev1")
  refine wo_ixL (j := 0) (tabS_get h0) rfl ?_
  repeat (walk_at "ev1")
  refine wo_lenS txt_len (by unfold sizeLine; omega) ?_
  repeat (walk_at "ev1")
  refine wo_ixL (j := 0) (tabS_get h0') rfl ?_
  repeat (walk_at "ev1")
  refine wo_lenS txt_len (by unfold sizeLine; omega) ?_
  repeat (walk_at "ev1")
  walk_at "ev0"
  refine we_comp2 ?_
  repeat (walk_at "ev1")
  refine wl_mk (range1_int (by omega) (by omega)) ?_
  have eh : ((h : Int) - h' + 1).toNat = h + 1 - h' := by omega
  have ew : ((w : Int) - w' + 1).toNat = w + 1 - w' := by omega
  rw [eh]
  generalize hG : ([.im (lstS (tab h w T)), .im (lstS (tab h' w' L)), .im (.int ((h : Int) - h' + 1)), .im (.int ((w : Int) - w' + 1)), .no, .no] : G) = G0
  obtain ⟨acc, g2, h1, h2, h3⟩ := compL2_ind (tg := putIm 4) (tg1 := putIm 5) (it1 := iOf range1D (aCons (mVar 3) aNil)) (e := mTup (aCons (mVar 4) (aCons (mVar 5) aNil))) (vs := [4, 5]) (vs1 := [5])
    (fun k acc g => acc = (cellsL k (w + 1 - w') fun _ _ => true).map cD ∧ g = G0) (rangeL 0 (h + 1 - h')) 0 [] G0 ⟨rfl, rfl⟩ (fun i d acc g hi hI => by
      obtain ⟨rfl, rfl⟩ := hI
      obtain ⟨hi, rfl⟩ := rangeL_get hi
      subst hG
      rw [Nat.zero_add, Int.zero_add]
      refine ⟨rfl, _, rfl, ?_⟩
      repeat (walk_at "ev1")
      refine wl_mk (range1_int (by omega) (by omega)) ?_
      rw [ew]
      have hlen : (cellsL i (w + 1 - w') fun _ _ => true).length ≤ 100 * 100 := Nat.le_trans cellsL_len (Nat.mul_le_mul (by omega) (by omega))
      obtain ⟨acc, g2, h1, h2, h3⟩ := compL_ind (tg := putIm 5) (c := none) (e := mTup (aCons (mVar 4) (aCons (mVar 5) aNil))) (vs := [5])
        (fun k acc g => acc = ((cellsL i (w + 1 - w') fun _ _ => true) ++ (List.range k).map fun j => (i, j)).map cD ∧ g = [.im (lstS (tab h w T)), .im (lstS (tab h' w' L)), .im (.int ((h : Int) - h' + 1)), .im (.int ((w : Int) - w' + 1)), .im (.int i), .no])
        (rangeL 0 (w + 1 - w')) 0 ((cellsL i (w + 1 - w') fun _ _ => true).map cD) [.im (lstS (tab h w T)), .im (lstS (tab h' w' L)), .im (.int ((h : Int) - h' + 1)), .im (.int ((w : Int) - w' + 1)), .im (.int i), .no]
        ⟨by rw [List.range_zero, List.map_nil, List.append_nil], rfl⟩ (fun j d acc g hj hI => by
          obtain ⟨rfl, rfl⟩ := hI
          obtain ⟨hj, rfl⟩ := rangeL_get hj
          rw [Nat.zero_add, Int.zero_add]
          refine ⟨rfl, _, rfl, we_c.mpr (wt_bl.mpr (ite_t rfl ?_))⟩
          repeat (walk_at "ev1")
          refine ⟨⟨by simp only [List.length_map, List.length_append, List.length_range]; unfold sizeLine; omega, rfl⟩, ?_, rfl⟩
          simp only [List.range_succ, List.map_append, List.append_assoc]
          rfl)
      rw [Nat.zero_add, rangeL_len] at h2
      subst h2 h3
      refine ⟨_, _, h1, rfl, ?_, rfl⟩
      rw [cellsL_succ, List.filter_eq_self.mpr fun _ _ => rfl])
  rw [Nat.zero_add, rangeL_len] at h2
  subst h2 h3
  exact ⟨_, _, h1, rfl, rfl, rfl⟩
theorem cells_mem {h w : Nat} {P : Nat → Nat → Bool} {p : Nat × Nat} (m : p ∈ cellsL h w P) : p.1 < h ∧ p.2 < w := by
  unfold cellsL at m
  obtain ⟨i, hi, m⟩ := List.mem_flatMap.mp m
  obtain ⟨j, hj, rfl⟩ := List.mem_map.mp m
  exact ⟨List.mem_range.mp hi, List.mem_range.mp (List.mem_filter.mp hj).1⟩
theorem pyL_cells : ∀ ps : List (Nat × Nat), pyL (ps.map cD) = some (ps.map fun p => .tuple [.int p.1, .int p.2])
  | [] => rfl
  | p :: ps => by simp only [List.map_cons, pyL, pyL_cells ps, cD, py]
end
end TL
set_option Elab.async false
set_option linter.all false
set_option maxRecDepth 100000
set_option maxHeartbeats 4000000
namespace Sd
open PySem PySem.Spec PyProof.Rows L2 TL
local macro_rules | `(tactic| walk_at "ev1") => `(tactic| first
  | with_reducible refine ws_seq.mpr ?_
  | with_reducible refine ws_next.mpr ?_
  | with_reducible refine ws_set ?_
  | with_reducible refine ws_setMu ?_
  | with_reducible refine ws_expr ?_
  | with_reducible refine ws_ret ?_
  | ((with_reducible refine ws_retMu ?_); refine ⟨_, rfl, ?_⟩)
  | with_reducible refine ws_if ?_
  | with_reducible refine ws_setIx ?_
  | with_reducible refine ws_asg ?_
  | with_reducible refine ws_for ?_
  | ((with_reducible refine ws_demote ?_); refine ⟨_, rfl, ?_⟩)
  | ((with_reducible refine we_var.mpr ?_); refine ⟨_, rfl, ?_⟩)
  | with_reducible refine we_c.mpr ?_
  | with_reducible refine we_bin.mpr ?_
  | with_reducible refine we_un.mpr ?_
  | with_reducible refine we_bool' ?_
  | with_reducible refine we_andT.mpr ?_
  | with_reducible refine we_orT.mpr ?_
  | with_reducible refine we_notT.mpr ?_
  | with_reducible refine we_andV.mpr ?_
  | with_reducible refine we_orV.mpr ?_
  | with_reducible refine we_notV.mpr ?_
  | with_reducible refine we_if.mpr ?_
  | with_reducible refine we_lst.mpr ?_
  | with_reducible refine we_tup.mpr ?_
  | with_reducible refine we_B.mpr ?_
  | with_reducible refine we_M.mpr ?_
  | with_reducible refine we_call.mpr ?_
  | ((with_reducible refine we_callIo.mpr ?_); refine ⟨⟨_, rfl⟩, ?_⟩)
  | ((with_reducible refine we_frz.mpr ?_); refine ⟨_, rfl, ?_⟩)
  | ((with_reducible refine we_rd.mpr ?_); refine ⟨⟨_, rfl⟩, ?_⟩)
  | ((with_reducible refine we_rd1.mpr ?_); refine ⟨_, rfl, ?_⟩)
  | ((with_reducible refine we_mut.mpr ?_); refine ⟨⟨_, rfl, rfl⟩, ?_⟩)
  | with_reducible refine we_chain.mpr ?_
  | with_reducible refine we_comp ?_
  | with_reducible refine we_sl ?_
  | with_reducible refine wpo_none ?_
  | with_reducible refine wpo_some ?_
  | with_reducible refine wa_nil.mpr ?_
  | with_reducible refine wa_cons.mpr ?_
  | with_reducible refine wa_items.mpr ?_
  | with_reducible refine wa_of' ?_
  | with_reducible refine wt_bl.mpr ?_
  | with_reducible refine wo_eqI ?_
  | with_reducible refine wo_neI ?_
  | with_reducible refine wo_eqB ?_
  | with_reducible refine wo_neB ?_
  | (with_reducible refine wo_fdiv (by omega) ?_)
  | (with_reducible refine wo_mod (by omega) ?_)
  | ((with_reducible refine wo_mul ?_ ?_); (focus first | (left; omega) | (right; omega)))
  | (refine wo_mk (n := _) (z := _) rfl ?_)
  | with_reducible refine ite_t rfl ?_
  | with_reducible refine ite_f (by decide) ?_
  | refine ⟨_, rfl, ?_⟩
  | refine ⟨rfl, ?_⟩
  | refine ⟨⟨rfl, rfl⟩, ?_⟩
  | refine ⟨⟨_, rfl⟩, ?_⟩
  | refine ⟨by decide, ?_⟩
  | refine ⟨by simp only [List.length_cons, List.length_nil]; decide, ?_⟩
  | refine ⟨by simp only [List.set_cons_succ, List.set_cons_zero, free_suc, free_opt, free_optM, free_im, free_mu, free_no, and_self], ?_⟩
  | refine ⟨_, put_at (by simp only [List.set_cons_succ, List.set_cons_zero, free_suc, free_opt, free_optM, free_im, free_mu, free_no, and_self]), ?_⟩
  | refine ⟨_, gtup2 (by simp only [List.set_cons_succ, List.set_cons_zero, free_suc, free_opt, free_optM, free_im, free_mu, free_no, and_self]) (by simp only [List.set_cons_succ, List.set_cons_zero, free_suc, free_opt, free_optM, free_im, free_mu, free_no, and_self]), ?_⟩
  | with_reducible exact rfl)
local macro_rules | `(tactic| walk_at "ev0") => `(tactic| simp only [argsG, List.map_cons, List.map_nil, List.length_cons, List.length_nil, Nat.reduceAdd, Nat.reduceSub, List.replicate_succ, List.replicate_zero, List.cons_append, List.nil_append, List.set_cons_succ, List.set_cons_zero])
theorem pool_ok {ns : List Int} {k : Nat} (hk : k < 1000) (hl : ns.length < 1000) : WC m__law_pool 3 [.ro ns, .int k] fun n d => n = true ∧ PoolN (61 * k) d := by
  refine wc_of ?_
  unfold m__law_pool
  repeat (walk_at "ev1")
  refine iteb (fun hy => ?_) fun hy => ?_
  · have hk2 : k < ns.length := by have := of_decide_eq_true hy; omega
    repeat (walk_at "ev1")
    refine wo_ixR (List.getElem?_eq_getElem hk2) rfl ?_
    repeat (walk_at "ev1")
    exact ⟨_, _, _, rfl, by omega, by omega⟩
  · repeat (walk_at "ev1")
    exact ⟨_, _, _, rfl, by omega, by omega⟩
theorem draw_ok {n : Nat} {d : D} {m : Int} (hp : PoolN n d) (hn : n < 1000000) (hm : 0 < m) (hm2 : m < 1073741824) : WCio m__law_draw 4 d [.int m] fun b r d' => b = false ∧ (∃ i : Nat, r = .int i ∧ (i : Int) < m) ∧ PoolN (n + 1) d' := by
  obtain ⟨x, y, z, rfl, hz0, hz1⟩ := hp
  refine wcio_of ?_
  unfold m__law_draw
  repeat (walk_at "ev1")
  refine iteb (fun hy => ?_) fun hy => ?_
  · repeat (walk_at "ev1")
    obtain ⟨q, hq, hq2⟩ := modP x m hm
    exact ⟨⟨q, by rw [hq], hq2⟩, _, _, _, rfl, hz0, by omega⟩
  · repeat (walk_at "ev1")
    refine ⟨?_, _, _, _, rfl, by omega, by omega⟩
    generalize (x % 999999999989 + 620033 * (z + 1)) % 999999999989 = a
    generalize ((a * a % 1000000000039 + 430019) * (a * a % 1000000000039) % 999999999961 / 7) = b
    obtain ⟨q, hq, hq2⟩ := modP b m hm
    exact ⟨q, by rw [hq], hq2⟩
theorem allS : ∃ cs : List Nat, (Str.ofString "!\"#$&'()*+,-./0123456789:;<=>@ABCDEFGHIJKLMNOPQRSTUVWXYZ" ++ Str.ofString "[\\]^_`abcdefghijklmnopqrstuvwxyz{|}~" : Str) = ⟨cs.toArray⟩ ∧ cs.length = 92 ∧ ∀ c ∈ cs, SgC c :=
  ⟨(Str.ofString "!\"#$&'()*+,-./0123456789:;<=>@ABCDEFGHIJKLMNOPQRSTUVWXYZ" ++ Str.ofString "[\\]^_`abcdefghijklmnopqrstuvwxyz{|}~" : Str).cps.toList, by rw [Array.toArray_toList], by decide +kernel, by unfold SgC; decide +kernel⟩
theorem signs_ok {n many : Nat} {d : D} (hp : PoolN n d) (hn : n < 900000) (m0 : 0 < many) (m9 : many < 1000) : WCio m__law_signs 5 d [.int many] fun b r d' => b = true ∧ (∃ cs : List Nat, r = .lst ((cs.map sg).map .str) ∧ cs.length = many ∧ ∀ c ∈ cs, SgC c) ∧ PoolN (n + 1) d' := by
  obtain ⟨cs, ecs, hl, hc⟩ := allS
  refine wcio_of ?_
  unfold m__law_signs
  repeat (walk_at "ev1")
  have ln : (⟨cs.toArray⟩ : Str).length = 92 := hl
  rw [ecs, ln]
  refine (draw_ok hp (by omega) (by omega) (by omega)).mono fun b r d2 hh => ?_
  obtain ⟨rfl, ⟨a, rfl, ha⟩, hp⟩ := hh
  walk_at "ev0"
  repeat (walk_at "ev1")
  refine wl_pureR (fun k => .str (sg (cs.getD ((a + k) % 92) 0))) (by omega) rfl (show 4 < 5 by decide) (fun k hk => ?_) ?_
  · repeat (walk_at "ev1")
    refine wo_lenS ln (by decide) ?_
    repeat (walk_at "ev1")
    have hlt : (a + k) % 92 < cs.length := by rw [hl]; exact Nat.mod_lt _ (by decide)
    refine wo_ixS (j := (a + k) % 92) (c := cs.getD ((a + k) % 92) 0) ?_ (by rw [ln]; decide) rfl ?_
    · show cs[(a + k) % 92]? = _
      rw [List.getD_eq_getElem?_getD, List.getElem?_eq_getElem hlt]
      rfl
    exact ⟨rfl, rfl⟩
  repeat (walk_at "ev1")
  refine ⟨⟨(List.range many).map fun k => cs.getD ((a + k) % 92) 0, by rw [List.map_map, List.map_map]; rfl, by rw [List.length_map, List.length_range], fun c hcm => ?_⟩, hp⟩
  obtain ⟨k, _, rfl⟩ := List.mem_map.mp hcm
  have hlt : (a + k) % 92 < cs.length := by rw [hl]; exact Nat.mod_lt _ (by decide)
  rw [List.getD_eq_getElem?_getD, List.getElem?_eq_getElem hlt]
  exact hc _ (List.getElem_mem hlt)
theorem row_ok {n w : Nat} {d : D} {cs : List Nat} (hp : PoolN n d) (hn : n < 800000) (w9 : w < 1000) (h0 : 0 < cs.length) (h9 : cs.length < 1000) (hc : ∀ c ∈ cs, SgC c) :
    WCio m__law_row 4 d [.lst ((cs.map sg).map .str), .int w] fun b r d' => b = true ∧ (∃ ds : List Nat, r = .lst ((ds.map sg).map .str) ∧ ds.length = w ∧ ∀ c ∈ ds, SgC c) ∧ PoolN (n + w) d' := by
  refine wcio_of ?_
  unfold m__law_row
  repeat (walk_at "ev1")
  refine wl_compR (fun j acc g => ∃ p ds, acc = (ds.map sg).map D.str ∧ ds.length = j ∧ (∀ c ∈ ds, SgC c) ∧ g = [.io p, .im (.lst ((cs.map sg).map .str)), .im (.int w), .no] ∧ PoolN (n + j) p)
    (by omega) ⟨d, [], rfl, rfl, (fun c hc => by cases hc), rfl, hp⟩ (fun j acc g hj hv => ?_) fun acc g2 hv => ?_
  · obtain ⟨p, ds, rfl, hds, hdc, rfl, hp⟩ := hv
    repeat (walk_at "ev1")
    rw [List.length_map, List.length_map]
    refine (draw_ok hp (by omega) (by omega) (by omega)).mono fun b r d3 hh => ?_
    obtain ⟨rfl, ⟨x, rfl, hx⟩, hp⟩ := hh
    have hx2 : x < cs.length := by omega
    repeat (walk_at "ev1")
    refine wo_ixL (d := .str (sg cs[x])) (by rw [List.getElem?_map, List.getElem?_map, List.getElem?_eq_getElem hx2]; rfl) rfl ?_
    refine ⟨⟨by simp only [List.length_map]; unfold sizeLine; omega, rfl⟩, _, ds ++ [cs[x]], sg_snoc, by rw [List.length_append, hds]; rfl, ?_, rfl, hp⟩
    intro c hcc
    rcases List.mem_append.mp hcc with h | h
    · exact hdc c h
    · rw [List.mem_singleton.mp h]; exact hc _ (List.getElem_mem _)
  · obtain ⟨p, ds, rfl, hds, hdc, rfl, hp⟩ := hv
    repeat (walk_at "ev1")
    exact ⟨⟨ds, rfl, hds, hdc⟩, hp⟩
theorem many6 {x : Nat} (h : x < 6) : ∃ m : Nat, ([D.int 2, .int 1, .int 2, .int 3, .int 5, .int 92] : List D)[x]? = some (.int m) ∧ 0 < m ∧ m ≤ 92 := by
  rcases x with _ | _ | _ | _ | _ | _ | x <;> first | omega | exact ⟨2, rfl, by omega, by omega⟩ | exact ⟨1, rfl, by omega, by omega⟩ | exact ⟨3, rfl, by omega, by omega⟩ | exact ⟨5, rfl, by omega, by omega⟩ | exact ⟨92, rfl, by omega, by omega⟩
theorem txt_of {ds : List Nat} {w : Nat} (h : ds.length = w) : (⟨ds.toArray⟩ : Str) = txt w fun b => ds.getD b 0 := by
  unfold txt
  congr 2
  apply List.ext_getElem
  · rw [List.length_map, List.length_range, h]
  · intro b h1 h2
    rw [List.getElem_map, List.getElem_range, List.getD_eq_getElem?_getD, List.getElem?_eq_getElem h1]
    rfl
theorem getD_P {P : Nat → Prop} {ds : List Nat} {b : Nat} (h : ∀ c ∈ ds, P c) (hb : b < ds.length) : P (ds.getD b 0) := by
  rw [List.getD_eq_getElem?_getD, List.getElem?_eq_getElem hb]
  exact h _ (List.getElem_mem hb)
def tileD (w : Nat) (ts : List (List Nat)) : List D := ts.map fun ds => .lst ((ds.map sg).map .str)
theorem great_ok {n h w : Nat} {d : D} (hp : PoolN n d) (hn : n < 700000) (h0 : 0 < h) (h9 : h ≤ 40) (w0 : 0 < w) (w9 : w ≤ 40) :
    WCio m__law_great 10 d [.int h, .int w] fun b r d' => b = true ∧ (∃ T, r = lstS (tab h w T) ∧ GT h w T) ∧ PoolN (n + 5 + h * w + 16) d' := by
  have hhw : h * w ≤ 40 * 40 := Nat.mul_le_mul h9 w9
  refine wcio_of ?_
  unfold m__law_great
  repeat (walk_at "ev1")
  refine (draw_ok hp (by omega) (by omega) (by omega)).mono fun b r d2 hh => ?_
  obtain ⟨rfl, ⟨x, rfl, hx⟩, hp⟩ := hh
  repeat (walk_at "ev1")
  obtain ⟨many, em, m0, m9⟩ := many6 (x := x) (by omega)
  refine wo_ixL em rfl ?_
  repeat (walk_at "ev1")
  refine (signs_ok hp (by omega) m0 (by omega)).mono fun b r d3 hh => ?_
  obtain ⟨rfl, ⟨cs, rfl, hcl, hcs⟩, hp⟩ := hh
  walk_at "ev0"
  repeat (walk_at "ev1")
  refine (draw_ok hp (by omega) (by omega) (by omega)).mono fun b r d4 hh => ?_
  obtain ⟨rfl, ⟨x, rfl, hx⟩, hp⟩ := hh
  walk_at "ev0"
  repeat (walk_at "ev1")
  refine iteb (fun hy => ?_) fun hy => ?_
  · repeat (walk_at "ev1")
    refine (draw_ok hp (by omega) (by split <;> omega) (by split <;> omega)).mono fun b r d5 hh => ?_
    obtain ⟨rfl, ⟨high, rfl, hh1⟩, hp⟩ := hh
    walk_at "ev0"
    repeat (walk_at "ev1")
    have hh4 : high < 4 := by split at hh1 <;> omega
    rw [show (1 : Int) + (high : Int) = ((1 + high : Nat) : Int) by omega]
    generalize eh : 1 + high = H
    refine (draw_ok hp (by omega) (by split <;> omega) (by split <;> omega)).mono fun b r d6 hh => ?_
    obtain ⟨rfl, ⟨wide, rfl, hw1⟩, hp⟩ := hh
    walk_at "ev0"
    repeat (walk_at "ev1")
    have hw4 : wide < 4 := by split at hw1 <;> omega
    rw [show (1 : Int) + (wide : Int) = ((1 + wide : Nat) : Int) by omega]
    generalize ew : 1 + wide = W
    have hHW : H * W ≤ 4 * 4 := Nat.mul_le_mul (by omega) (by omega)
    walk_at "ev0"
    refine wl_compR (fun i acc g => ∃ p ts, acc = tileD W ts ∧ ts.length = i ∧ (∀ ds ∈ ts, ds.length = W ∧ ∀ c ∈ ds, SgC c) ∧ g = [.io p, .im (.int h), .im (.int w), .im (.lst ((cs.map sg).map .str)), .im (.int H), .im (.int W), .no, .no, .no, .no] ∧ PoolN (n + 5 + i * W) p)
      (by omega) ⟨d6, [], rfl, rfl, (fun c hc => by cases hc), rfl, by rw [Nat.zero_mul]; exact hp⟩ (fun i acc g hi hv => ?_) fun acc g2 hv => ?_
    · obtain ⟨p, ts, rfl, hts, htc, rfl, hp⟩ := hv
      have hiw : i * W + W ≤ H * W := by rw [← Nat.succ_mul]; exact Nat.mul_le_mul_right W hi
      repeat (walk_at "ev1")
      refine (row_ok hp (by omega) (by omega) (by omega) (by omega) hcs).mono fun b r d5 hh => ?_
      obtain ⟨rfl, ⟨ds, rfl, hds, hdc⟩, hp⟩ := hh
      walk_at "ev0"
      repeat (walk_at "ev1")
      refine ⟨⟨by unfold tileD; rw [List.length_map]; unfold sizeLine; omega, rfl⟩, _, ts ++ [ds], by unfold tileD; rw [List.map_append]; rfl, by rw [List.length_append, hts]; rfl, fun es he => ?_, rfl, by rw [Nat.succ_mul, ← Nat.add_assoc]; exact hp⟩
      rcases List.mem_append.mp he with z | z
      · exact htc es z
      · rw [List.mem_singleton.mp z]; exact ⟨hds, hdc⟩
    obtain ⟨p, ts, rfl, hts, htc, rfl, hp⟩ := hv
    walk_at "ev0"
    repeat (walk_at "ev1")
    walk_at "ev0"
    refine ws_range (fun i g => ∃ T o7, g = [.io p, .im (.int h), .im (.int w), .im (.lst ((cs.map sg).map .str)), .im (.int H), .im (.int W), .im (.lst (tileD W ts)), opt o7, .mu (lstS (tab i w T)), .no] ∧ GT i w T)
      (by omega) ⟨fun _ _ => 0, none, rfl, fun i j hi => by omega⟩ (fun i g hi hv => ?_) fun g hv => ?_
    · obtain ⟨T, o7, rfl, hT⟩ := hv
      repeat (walk_at "ev1")
      have hiH : i % H < ts.length := by rw [hts]; exact Nat.mod_lt _ (by omega)
      have hdl := htc _ (List.getElem_mem hiH)
      generalize eds : ts[i % H] = ds at hdl
      have get1 : (tileD W ts)[i % H]? = some (.lst ((ds.map sg).map .str)) := by unfold tileD; rw [List.getElem?_map, List.getElem?_eq_getElem hiH, eds]; rfl
      walk_at "ev0"
      refine wl_pureR (fun j => .str (sg (ds.getD (j % W) 0))) (by omega) rfl (show 9 < 10 by decide) (fun j hj => ?_) ?_
      · repeat (walk_at "ev1")
        refine wo_ixL (j := i % H) get1 rfl ?_
        repeat (walk_at "ev1")
        have hjW : j % W < ds.length := by rw [hdl.1]; exact Nat.mod_lt _ (by omega)
        refine wo_ixL (j := j % W) (d := .str (sg (ds.getD (j % W) 0))) (by rw [List.getElem?_map, List.getElem?_map, List.getElem?_eq_getElem hjW, List.getD_eq_getElem?_getD, List.getElem?_eq_getElem hjW]; rfl) rfl ?_
        exact ⟨rfl, rfl⟩
      rw [show ((List.range w).map fun j => D.str (sg (ds.getD (j % W) 0))) = (((List.range w).map fun j => ds.getD (j % W) 0).map sg).map D.str by rw [List.map_map, List.map_map]; rfl]
      repeat (walk_at "ev1")
      refine wo_join (cs := (List.range w).map fun j => ds.getD (j % W) 0) (by rw [List.length_map, List.length_range]; omega) ?_
      repeat (walk_at "ev1")
      refine ⟨_, _, app_at (by rw [List.length_map, tab_len]; unfold sizeLine; omega), ?_⟩
      rw [show (⟨((List.range w).map fun j => ds.getD (j % W) 0).toArray⟩ : Str) = txt w (fun j => ds.getD (j % W) 0) from rfl, lst_snoc, rows_snoc]
      repeat (walk_at "ev1")
      exact ⟨_, some _, rfl, rows_sgP hT fun b _ => getD_P hdl.2 (by rw [hdl.1]; exact Nat.mod_lt _ (by omega))⟩
    · obtain ⟨T, o7, rfl, hT⟩ := hv
      repeat (walk_at "ev1")
      exact ⟨⟨T, rfl, hT⟩, PoolN.le hp (by omega)⟩
  · repeat (walk_at "ev1")
    refine wl_compR (fun i acc g => ∃ p T, acc = (tab i w T).map D.str ∧ GT i w T ∧ g = [.io p, .im (.int h), .im (.int w), .im (.lst ((cs.map sg).map .str)), .no, .no, .no, .no, .no, .no] ∧ PoolN (n + 3 + i * w) p)
      (by omega) ⟨d4, fun _ _ => 0, rfl, (fun i j hi => by omega), rfl, by rw [Nat.zero_mul]; exact hp⟩ (fun i acc g hi hv => ?_) fun acc g2 hv => ?_
    · obtain ⟨p, T, rfl, hT, rfl, hp⟩ := hv
      have hiw : i * w + w ≤ h * w := by rw [← Nat.succ_mul]; exact Nat.mul_le_mul_right w hi
      repeat (walk_at "ev1")
      refine (row_ok hp (by omega) (by omega) (by omega) (by omega) hcs).mono fun b r d5 hh => ?_
      obtain ⟨rfl, ⟨ds, rfl, hds, hdc⟩, hp⟩ := hh
      walk_at "ev0"
      repeat (walk_at "ev1")
      refine wo_join (cs := ds) (by omega) ?_
      repeat (walk_at "ev1")
      rw [txt_of hds]
      refine ⟨⟨by rw [List.length_map, tab_len]; unfold sizeLine; omega, rfl⟩, _, fun a b => if a < i then T a b else ds.getD b 0, ?_, rows_sgP hT fun b hb => getD_P hdc (by omega), rfl, by rw [Nat.succ_mul, ← Nat.add_assoc]; exact hp⟩
      rw [← rows_snoc, List.map_append]
      rfl
    · obtain ⟨p, T, rfl, hT, rfl, hp⟩ := hv
      repeat (walk_at "ev1")
      exact ⟨⟨T, rfl, hT⟩, PoolN.le hp (by omega)⟩
theorem free5 {x : Nat} (h : x < 5) : ∃ m : Nat, ([D.int 0, .int 0, .int 2, .int 4, .int 1] : List D)[x]? = some (.int m) ∧ m ≤ 4 := by
  rcases x with _ | _ | _ | _ | _ | x <;> first | omega | exact ⟨0, rfl, by omega⟩ | exact ⟨2, rfl, by omega⟩ | exact ⟨4, rfl, by omega⟩ | exact ⟨1, rfl, by omega⟩
theorem little_ok {n h w h' w' : Nat} {d : D} {T : Nat → Nat → Nat} (hp : PoolN n d) (hn : n < 700000) (hT : GT h w T) (h0 : 0 < h) (h9 : h ≤ 40) (w0 : 0 < w) (w9 : w ≤ 40) (h0' : 0 < h') (h9' : h' ≤ 40) (w0' : 0 < w') (w9' : w' ≤ 40) :
    WCio m__law_little 13 d [lstS (tab h w T), .int h', .int w'] fun b r d' => b = true ∧ (∃ L, r = lstS (tab h' w' L) ∧ SgT h' w' L) ∧ PoolN (n + 8 + h' * w') d' := by
  have hhw : h' * w' ≤ 40 * 40 := Nat.mul_le_mul h9' w9'
  refine wcio_of ?_
  unfold m__law_little
  repeat (walk_at "ev1")
  rw [List.length_map, tab_len]
  refine (draw_ok hp (by omega) (by omega) (by omega)).mono fun b r d2 hh => ?_
  obtain ⟨rfl, ⟨at0, rfl, hat⟩, hp⟩ := hh
  walk_at "ev0"
  repeat (walk_at "ev1")
  refine wo_ixL (j := 0) (tabS_get h0) rfl ?_
  repeat (walk_at "ev1")
  refine wo_lenS txt_len (by unfold sizeLine; omega) ?_
  repeat (walk_at "ev1")
  refine (draw_ok hp (by omega) (by omega) (by omega)).mono fun b r d3 hh => ?_
  obtain ⟨rfl, ⟨al, rfl, hal⟩, hp⟩ := hh
  walk_at "ev0"
  repeat (walk_at "ev1")
  refine (draw_ok hp (by omega) (by omega) (by omega)).mono fun b r d4 hh => ?_
  obtain ⟨rfl, ⟨x, rfl, hx⟩, hp⟩ := hh
  walk_at "ev0"
  repeat (walk_at "ev1")
  obtain ⟨free, ef, hf⟩ := free5 (x := x) (by omega)
  refine wo_ixL ef rfl ?_
  walk_at "ev0"
  repeat (walk_at "ev1")
  walk_at "ev0"
  refine ws_range (fun i g => ∃ p L o8 o9 o10, g = [.io p, .im (lstS (tab h w T)), .im (.int h'), .im (.int w'), .im (.int at0), .im (.int al), .im (.int free), .mu (lstS (tab i w' L)), opt o8, opt o9, opt o10, .no, .no] ∧ SgT i w' L ∧ PoolN (n + 3 + i * w') p)
    (by omega) ⟨d4, fun _ _ => 0, none, none, none, rfl, (fun i j hi => by omega), by rw [Nat.zero_mul]; exact hp⟩ (fun i g hi hv => ?_) fun g hv => ?_
  · clear hp
    obtain ⟨p, L, o8, o9, o10, rfl, hL, hp⟩ := hv
    have hiw : i * w' + w' ≤ h' * w' := by rw [← Nat.succ_mul]; exact Nat.mul_le_mul_right w' hi
    repeat (walk_at "ev1")
    rw [List.length_map, tab_len]
    repeat (walk_at "ev1")
    have hr : (at0 + i) % h < h := Nat.mod_lt _ h0
    refine wo_ixL (j := (at0 + i) % h) (tabS_get hr) rfl ?_
    walk_at "ev0"
    repeat (walk_at "ev1")
    walk_at "ev0"
    refine wl_pureR (fun j => .str (sg (T ((at0 + i) % h) ((al + j) % w)))) (by omega) rfl (show 11 < 13 by decide) (fun j hj => ?_) ?_
    · repeat (walk_at "ev1")
      refine wo_lenS txt_len (by unfold sizeLine; omega) ?_
      repeat (walk_at "ev1")
      refine wo_ixS (j := (al + j) % w) (txt_get (Nat.mod_lt _ w0)) (by rw [txt_len]; unfold sizeLine; omega) rfl ?_
      exact ⟨rfl, rfl⟩
    repeat (walk_at "ev1")
    obtain ⟨ds, eds, hdl, hds⟩ : ∃ ds : List Nat, ((List.range w').map fun j => D.str (sg (T ((at0 + i) % h) ((al + j) % w)))) = (ds.map sg).map D.str ∧ ds.length = w' ∧ ∀ c ∈ ds, 33 ≤ c ∧ c ≤ 126 :=
      ⟨(List.range w').map fun j => T ((at0 + i) % h) ((al + j) % w), by rw [List.map_map, List.map_map]; rfl, by rw [List.length_map, List.length_range], fun c hc => by
        obtain ⟨j, _, rfl⟩ := List.mem_map.mp hc
        exact (hT _ _ hr (Nat.mod_lt _ w0)).1⟩
    rw [eds]
    walk_at "ev0"
    refine iteb (fun hy => ?_) fun hy => ?_
    · have hy := of_decide_eq_true hy
      repeat (walk_at "ev1")
      walk_at "ev0"
      refine comp_items (fun j acc g => ∃ p, ∃ es : List Nat, acc = (es.map sg).map D.str ∧ es.length = j ∧ (∀ c ∈ es, 33 ≤ c ∧ c ≤ 126) ∧ g = [.io p, .im (lstS (tab h w T)), .im (.int h'), .im (.int w'), .im (.int at0), .im (.int al), .im (.int free), .mu (lstS (tab i w' L)), .im (.int i), .im (.str (txt w (T ((at0 + i) % h)))), .im (.lst ((ds.map sg).map .str)), .no, .no] ∧ PoolN (n + 3 + i * w' + j) p)
        ⟨p, [], rfl, rfl, (fun c hc => by cases hc), rfl, hp⟩ (fun j d acc g hj hv => ?_) fun acc g2 hv => ?_
      · clear hp
        obtain ⟨p, es, rfl, hes, hec, rfl, hp⟩ := hv
        have hjl : j < ds.length := by
          have z := (List.getElem?_eq_some_iff.mp hj).1
          rw [List.length_map, List.length_map] at z
          exact z
        have hget : ((ds.map sg).map D.str)[j]? = some (.str (sg ds[j])) := by rw [List.getElem?_map, List.getElem?_map, List.getElem?_eq_getElem hjl]; rfl
        have e := Option.some.inj (hget.symm.trans hj)
        subst e
        have hc := hds _ (List.getElem_mem hjl)
        generalize ds[j] = c at hc
        clear hj hget
        repeat (walk_at "ev1")
        walk_at "ev0"
        refine (draw_ok hp (by omega) (by omega) (by omega)).mono fun b r d3 hh => ?_
        obtain ⟨rfl, ⟨x, rfl, hx⟩, hp⟩ := hh
        repeat (walk_at "ev1")
        have fin : ∀ c, 33 ≤ c ∧ c ≤ 126 → ∀ x ∈ es ++ [c], 33 ≤ x ∧ x ≤ 126 := fun c hc x hx => by
          rcases List.mem_append.mp hx with h | h
          · exact hec x h
          · rw [List.mem_singleton.mp h]; exact hc
        have hz : ((es.map sg).map D.str).length < sizeLine := by
          simp only [List.length_map]
          unfold sizeLine
          omega
        by_cases e : (x : Int) = 0
        · rw [decide_eq_true e]
          repeat (walk_at "ev1")
          exact ⟨⟨hz, rfl⟩, _, es ++ [63], sg_snoc (c := 63), by rw [List.length_append, hes]; rfl, fin _ (by omega), rfl, hp⟩
        · rw [decide_eq_false e]
          repeat (walk_at "ev1")
          exact ⟨⟨hz, rfl⟩, _, es ++ [c], sg_snoc, by rw [List.length_append, hes]; rfl, fin _ hc, rfl, hp⟩
      · clear hp
        obtain ⟨p, es, rfl, hes, hec, rfl, hp⟩ := hv
        rw [List.length_map, List.length_map, hdl] at hes hp
        refine ⟨rfl, ?_⟩
        repeat (walk_at "ev1")
        walk_at "ev0"
        repeat (walk_at "ev1")
        refine wo_join (cs := es) (by omega) ?_
        repeat (walk_at "ev1")
        refine ⟨_, _, app_at (by rw [List.length_map, tab_len]; unfold sizeLine; omega), ?_⟩
        rw [txt_of hes, lst_snoc, rows_snoc]
        repeat (walk_at "ev1")
        exact ⟨p, _, some _, some _, some _, rfl, rows_sgP (P := fun c => 33 ≤ c ∧ c ≤ 126) hL fun b hb => getD_P hec (by omega), by rw [Nat.succ_mul, ← Nat.add_assoc]; exact hp⟩
    · repeat (walk_at "ev1")
      refine wo_join (cs := ds) (by omega) ?_
      repeat (walk_at "ev1")
      refine ⟨_, _, app_at (by rw [List.length_map, tab_len]; unfold sizeLine; omega), ?_⟩
      rw [txt_of hdl, lst_snoc, rows_snoc]
      repeat (walk_at "ev1")
      exact ⟨p, _, some _, some _, some _, rfl, rows_sgP (P := fun c => 33 ≤ c ∧ c ≤ 126) hL fun b hb => getD_P hds (by omega), PoolN.le hp (by rw [Nat.succ_mul]; omega)⟩
  · clear hp
    obtain ⟨p, L, o8, o9, o10, rfl, hL, hp⟩ := hv
    repeat (walk_at "ev1")
    try (walk_at "ev0")
    refine (draw_ok hp (by omega) (by omega) (by omega)).mono fun b r d3 hh => ?_
    obtain ⟨rfl, ⟨x, rfl, hx⟩, hp⟩ := hh
    try (walk_at "ev0")
    repeat (walk_at "ev1")
    refine iteb (fun hy => ?_) fun hy => ?_
    · repeat (walk_at "ev1")
      refine (draw_ok hp (by omega) (by omega) (by omega)).mono fun b r d5 hh => ?_
      obtain ⟨rfl, ⟨r, rfl, hr⟩, hp⟩ := hh
      walk_at "ev0"
      repeat (walk_at "ev1")
      refine (draw_ok hp (by omega) (by omega) (by omega)).mono fun b _ d6 hh => ?_
      obtain ⟨rfl, ⟨c, rfl, hc⟩, hp⟩ := hh
      walk_at "ev0"
      repeat (walk_at "ev1")
      refine (signs_ok (many := 1) hp (by omega) (by decide) (by decide)).mono fun b _ d7 hh => ?_
      obtain ⟨rfl, ⟨cs, rfl, hcl, hcs⟩, hp⟩ := hh
      walk_at "ev0"
      repeat (walk_at "ev1")
      obtain ⟨sgn, rfl⟩ : ∃ c, cs = [c] := by
        match cs, hcl with
        | [c], _ => exact ⟨c, rfl⟩
      have hsgn := (hcs sgn (by simp)).1
      refine wo_ixL (j := 0) (d := .str (sg sgn)) rfl rfl ?_
      have hr : r < h' := by omega
      have hc : c < w' := by omega
      walk_at "ev0"
      repeat (walk_at "ev1")
      refine wo_ixL (tabS_get hr) rfl ?_
      repeat (walk_at "ev1")
      refine wo_mk (if_pos (by rw [txt_len]; unfold sizeLine; omega)) ?_
      have l1 : (cutS (txt w' (L r)) none (some (c : Int))).length ≤ w' := Nat.le_trans (cutS_length _ _ _) (Nat.le_of_eq txt_len)
      have l2 : (cutS (txt w' (L r)) (some ((c + 1 : Nat) : Int)) none).length ≤ w' := Nat.le_trans (cutS_length _ _ _) (Nat.le_of_eq txt_len)
      repeat (walk_at "ev1")
      refine wo_addS (by show _ + 1 ≤ sizeLine; unfold sizeLine; omega) ?_
      repeat (walk_at "ev1")
      refine wo_ixL (tabS_get hr) rfl ?_
      repeat (walk_at "ev1")
      rw [show (c : Int) + 1 = ((c + 1 : Nat) : Int) by omega]
      refine wo_mk (if_pos (by rw [txt_len]; unfold sizeLine; omega)) ?_
      refine wo_addS (by show (cutS (txt w' (L r)) none (some (c : Int)) ++ sg sgn).cps.size + _ ≤ sizeLine; show ((cutS (txt w' (L r)) none (some (c : Int))).cps ++ #[sgn]).size + _ ≤ sizeLine; rw [Array.size_append]; show (cutS (txt w' (L r)) none (some (c : Int))).length + 1 + _ ≤ _; unfold sizeLine; omega) ?_
      rw [put_sign hc]
      repeat (walk_at "ev1")
      refine ⟨_, set_at (by rw [List.length_map, tab_len]; exact hr), ?_⟩
      rw [tab_set hr]
      repeat (walk_at "ev1")
      refine ⟨⟨_, rfl, fun a b ha hb => ?_⟩, PoolN.le hp (by omega)⟩
      show 33 ≤ (if a = r then (if b = c then sgn else L r b) else L a b) ∧ (if a = r then (if b = c then sgn else L r b) else L a b) ≤ 126
      split
      · split
        · exact hsgn
        · exact hL r b hr hb
      · exact hL a b ha hb
    · repeat (walk_at "ev1")
      exact ⟨⟨L, rfl, hL⟩, PoolN.le hp (by omega)⟩
end Sd
set_option Elab.async false
set_option linter.all false
set_option maxRecDepth 100000
set_option maxHeartbeats 4000000
namespace TL
open PySem PySem.Spec PyProof.Rows L2
section
variable {f f1 f2 : MF} {fs : MA} {g : G} {P : Bool → D → G → Prop} {PA : List D → G → Prop} {R : Rt → Prop} {F F1 F2 : MS} {i j N : Nat} {d : D}
theorem ws_par (h : WA fs g fun ds g1 => ∃ d e, ds = [d, e] ∧ free? g1 i = true ∧ free? (g1.set i (.im d)) j = true ∧ R (.nx ((g1.set i (.im d)).set j (.im e)))) : WS (sPar i j fs) g R := by
  obtain ⟨ds, g1, e1, d, e, rfl, f1, f2, r⟩ := h
  refine ⟨_, ?_, r⟩
  unfold sPar
  rw [e1]
  simp only [put_at f1, put_at f2]
theorem we_dnew (h : P true (.dic []) g) : WE mDNew g P := ⟨_, _, _, rfl, h⟩
theorem we_disp {ps : List (MF × MF)} (h : WA (aPairs ps) g fun ds g1 => ∃ es, pairsK ds = some es ∧ es.length ≤ 15 ∧ shape g1 = shape g ∧ P true (.dic (mergeD [] es)) g1) : WE (mDisp ps) g P := by
  obtain ⟨ds, g1, e1, es, e2, h1, h2, p⟩ := h
  refine ⟨_, _, _, ?_, p⟩
  unfold mDisp
  rw [e1]
  simp only [e2, if_pos (show es.length ≤ 15 ∧ shape g1 = shape g from ⟨h1, h2⟩)]
theorem wa_pairs0 (h : PA [] g) : WA (aPairs []) g PA := wa_nil.mpr h
theorem wa_pairs1 {fk fv : MF} {r : List (MF × MF)} (h : WA (aCons fk (aCons fv (aPairs r))) g PA) : WA (aPairs ((fk, fv) :: r)) g PA := h
def WCX (F : MS) (N : Nat) (ds : List D) (c : Str) : Prop := ∃ g', callM F N ds = some (.ex c g')
/-- a call that hands back or raises -/
def WCE (F : MS) (N : Nat) (ds : List D) (P : Bool → D → Prop) (E : Str → Prop) : Prop := WC F N ds P ∨ ∃ c, WCX F N ds c ∧ E c
theorem wcx_of {ds : List D} {c : Str} (h : WS F (argsG (ds.map .im) N) fun r => ∃ g', r = .ex c g') : WCX F N ds c := by
  obtain ⟨r, e, g', rfl⟩ := h
  refine ⟨g', ?_⟩
  unfold callM
  rw [e]
  rfl
theorem ws_exprW (h : WA fs g fun ds g1 => WCE F N ds (fun _ _ => R (.nx g1)) fun c => R (.ex c g1)) : WS (sExpr (mCallW F N fs)) g R := by
  obtain ⟨ds, g1, e1, h⟩ := h
  rcases h with ⟨n, d, g', e2, r⟩ | ⟨c, ⟨g', e2⟩, r⟩
  · refine ⟨_, ?_, r⟩
    unfold sExpr sThen mCallW
    rw [e1]
    simp only [e2]
  · refine ⟨_, ?_, r⟩
    unfold sExpr sThen mCallW
    rw [e1]
    simp only [e2]
theorem ws_ifW {c : MF} (h : WE c g fun _ d g1 => WT d fun b => if b = true then WS F1 g1 R else WS F2 g1 R) : WS (sIfW c F1 F2) g R := by
  obtain ⟨n, d, g1, e, b, e2, h⟩ := h
  cases b with
  | true =>
    obtain ⟨r, e3, h⟩ := (show WS F1 g1 R from h)
    refine ⟨r, ?_, h⟩
    unfold sIfW sTestW
    rw [e]
    simp only [e2, if_true]
    exact e3
  | false =>
    obtain ⟨r, e3, h⟩ := (show WS F2 g1 R from h)
    refine ⟨r, ?_, h⟩
    unfold sIfW sTestW
    rw [e]
    simp only [e2, if_neg Bool.false_ne_true]
    exact e3
theorem ws_try {kn : List Str} {G : MS} (h : WS F g fun r => match r with
    | .ex c g' => (c ∈ kn ∧ free? g' i = true) ∧ WS G (g'.set i (.im (.exc c))) fun r2 => match r2 with
      | .nx g2 => plain? g2 [i] = true ∧ R (.nx (wipeG g2 [i]))
      | .rt n d g2 => R (.rt n d g2)
      | _ => False
    | r => R r) : WS (sTry kn i F G) g R := by
  obtain ⟨r, e, h⟩ := h
  cases r with
  | ex c g' =>
    obtain ⟨hq, r2, e2, h2⟩ := h
    cases r2 with
    | nx g2 =>
      refine ⟨_, ?_, h2.2⟩
      unfold sTry
      rw [e]
      simp only [if_pos hq, e2, if_pos h2.1]
    | rt n d g2 =>
      refine ⟨_, ?_, h2⟩
      unfold sTry
      rw [e]
      simp only [if_pos hq, e2]
    | bk g2 => exact h2.elim
    | ct g2 => exact h2.elim
    | ex c2 g2 => exact h2.elim
  | nx g' => exact ⟨_, by unfold sTry; rw [e], h⟩
  | bk g' => exact ⟨_, by unfold sTry; rw [e], h⟩
  | ct g' => exact ⟨_, by unfold sTry; rw [e], h⟩
  | rt n d g' => exact ⟨_, by unfold sTry; rw [e], h⟩
end
section
variable {P : Bool → D → Prop} {h w : Nat} {T : Nat → Nat → Nat} {fc : Nat → Nat}
theorem wo_ixTab0 (h0 : 0 < h) (p : P false (.str (txt w (T 0)))) : WO (ixD (lstS (tab h w T)) (.int 0)) P := wo_ixL (j := 0) (tabS_get h0) rfl p
theorem wo_lenTxt (h9 : w < 1000000) (p : P false (.int w)) : WO (lenD [.str (txt w fc)]) P := wo_lenS txt_len (by unfold sizeLine; omega) p
theorem wo_lenTab (p : P false (.int h)) : WO (lenD [lstS (tab h w T)]) P := wo_mk (n := false) (z := .int h) (by show some (false, D.int _) = _; rw [List.length_map, tab_len]) p
end
end TL
set_option Elab.async false
set_option linter.all false
set_option maxRecDepth 100000
set_option maxHeartbeats 4000000
namespace TL
open PySem PySem.Spec PyProof.Rows L2 PySem.W
theorem minD_mem : ∀ (ps : List PyData) (p : PyData), minD p ps ∈ p :: ps
  | [], p => List.mem_singleton.mpr rfl
  | q :: ps, p => by
    unfold minD
    rw [List.foldl_cons]
    split
    · exact List.mem_cons_of_mem _ (minD_mem ps q)
    · rcases List.mem_cons.mp (minD_mem ps p) with e | h
      · rw [show List.foldl (fun a y => if dataLt y a then y else a) p ps = minD p ps from rfl, e]
        exact List.mem_cons_self ..
      · exact List.mem_cons_of_mem _ (List.mem_cons_of_mem _ h)
theorem shaped_lists {xss : List (List Str)} (h : ∀ xs ∈ xss, okL xs) : SeqAt.shaped (.list (xss.map fun xs => .list (xs.map .str))) = true := by
  have h1 : PyData.canLayAll0 (xss.map fun xs => .list (xs.map .str)) = true ∧ PyData.depthAll (xss.map fun xs => .list (xs.map .str)) ≤ 1 := by
    induction xss with
    | nil => exact ⟨by rw [List.map_nil, PyData.canLayAll0], by rw [List.map_nil, PyData.depthAll]; exact Nat.zero_le _⟩
    | cons x xs ih =>
      obtain ⟨i1, i2⟩ := ih fun y hy => h y (List.mem_cons_of_mem _ hy)
      have hx := shaped_strs (h x (List.mem_cons_self ..))
      have hs : ∀ ys : List Str, okL ys → PyData.canLayAll0 (ys.map .str) = true ∧ PyData.depthAll (ys.map .str) = 0 := by
        intro ys
        induction ys with
        | nil => intro _; exact ⟨by rw [List.map_nil, PyData.canLayAll0], by rw [List.map_nil, PyData.depthAll]⟩
        | cons y ys ih =>
          intro hy
          obtain ⟨i1, i2⟩ := ih fun z hz => hy z (List.mem_cons_of_mem _ hz)
          exact ⟨by rw [List.map_cons, PyData.canLayAll0, PyData.canLay0, hy y (List.mem_cons_self ..), i1]; rfl, by rw [List.map_cons, PyData.depthAll, PyData.depth, i2]; rfl⟩
      obtain ⟨a1, a2⟩ := hs x (h x (List.mem_cons_self ..))
      refine ⟨?_, ?_⟩
      · rw [List.map_cons, PyData.canLayAll0, PyData.canLay0, a1, i1]; rfl
      · rw [List.map_cons, PyData.depthAll, PyData.depth, a2]
        omega
  unfold SeqAt.shaped
  rw [PyData.canLay0, PyData.depth, h1.1]
  have := h1.2
  simp only [Bool.true_and, decide_eq_true_eq]
  omega
theorem pyL_lists : ∀ xss : List (List Str), pyL (xss.map lstS) = some (xss.map fun xs => .list (xs.map .str))
  | [] => rfl
  | xs :: xss => by simp only [List.map_cons, pyL, py_lstS, pyL_lists xss]
theorem any_lists {x : List Str} : ∀ xss : List (List Str), ((xss.map fun xs => PyData.list (xs.map .str)).any fun z => PyData.eqv z (.list (x.map .str))) = xss.any fun y => decide (y = x)
  | [] => rfl
  | xs :: xss => by
    rw [List.map_cons, List.any_cons, List.any_cons, any_lists xss]
    congr 1
    rw [PyData.eqv, eqvAll_strs]
theorem inX_lists {x : List Str} {xss : List (List Str)} (hx : okL x) (h : ∀ xs ∈ xss, okL xs) : inX (lstS x) (.lst (xss.map lstS)) = some (xss.any fun y => decide (y = x)) := by
  unfold inX
  have e : inB (lstS x) (.lst (xss.map lstS)) = none := by
    cases x <;> cases xss <;> rfl
  rw [e]
  simp only [py_lstS, pyL_lists]
  rw [if_pos ⟨shaped_strs hx, shaped_lists h⟩, any_lists]
theorem wo_ninLL {x : List Str} {xss : List (List Str)} {P : Bool → D → Prop} (hx : okL x) (h : ∀ xs ∈ xss, okL xs) (p : P false (.bl (!(xss.any fun y => decide (y = x))))) : WO (ninY (lstS x) (.lst (xss.map lstS))) P := ⟨_, _, by unfold ninY; rw [inX_lists hx h], p⟩
theorem comp_mapL {α : Type} {xs : List α} {F F' : α → D} {g : G} {v : Nat} {e : MF} {Q : List D → G → Prop} (hp : plain? g [v] = true) (hv : v < g.length) (hz : xs.length ≤ sizeLine)
    (he : ∀ x ∈ xs, WE e ((g.set v .no).set v (.im (F x))) fun _ r g3 => r = F' x ∧ g3 = (g.set v .no).set v (.im (F x))) (k : Q (xs.map F') g) :
    ∃ acc g2, compL (putIm v) none e [v] (xs.map F) [] g = some (acc, g2) ∧ shape g2 = shape g ∧ Q acc g2 := by
  refine comp_items (fun k acc g' => acc = (xs.take k).map F' ∧ g' = g) ⟨rfl, rfl⟩ (fun i d acc g' hi hI => ?_) fun acc g2 hI => ?_
  · obtain ⟨rfl, rfl⟩ := hI
    rw [List.getElem?_map] at hi
    obtain ⟨x, hx, rfl⟩ := Option.map_eq_some_iff.mp hi
    have hl := (List.getElem?_eq_some_iff.mp hx).1
    have hv2 : v < (g'.set v SD.no).length := by rw [List.length_set]; exact hv
    refine ⟨hp, (g'.set v .no).set v (.im (F x)), put_at ?_, (he x (List.mem_of_getElem? hx)).mono fun n r g3 h => ?_⟩
    · show free? (g'.set v .no) v = true
      unfold free?
      rw [List.getElem?_eq_getElem hv2, List.getElem_set_self]
    · obtain ⟨rfl, rfl⟩ := h
      refine ⟨⟨?_, ?_⟩, ?_, ?_⟩
      · rw [List.length_map, List.length_take]; omega
      · rw [List.length_set, List.length_set]
      · rw [List.take_succ, hx, List.map_append]; rfl
      · exact set_back hv
  · obtain ⟨rfl, rfl⟩ := hI
    rw [List.length_map, List.take_length]
    exact ⟨rfl, k⟩
theorem comp_filterT {α : Type} {xs : List α} {F F' : α → D} {Pt : α → Bool} {g : G} {tg : D → G → Option G} {vs : List Nat} {c : Option MF} {e : MF} {Q : List D → G → Prop} (Gx : α → G) (hp : plain? g vs = true) (hz : xs.length ≤ sizeLine)
    (ht : ∀ x ∈ xs, tg (F x) (wipeG g vs) = some (Gx x)) (hl : ∀ x, (Gx x).length = g.length) (hb : ∀ x, backG g (Gx x) vs = g)
    (hc : ∀ x ∈ xs, WE (testC c) (Gx x) fun _ r g3 => r = .bl (Pt x) ∧ g3 = Gx x)
    (he : ∀ x ∈ xs, Pt x = true → WE e (Gx x) fun _ r g3 => r = F' x ∧ g3 = Gx x) (k : Q ((xs.filter Pt).map F') g) :
    ∃ acc g2, compL tg c e vs (xs.map F) [] g = some (acc, g2) ∧ shape g2 = shape g ∧ Q acc g2 := by
  obtain ⟨acc, g2, h1, h2, h3⟩ := compL_ind (tg := tg) (c := c) (e := e) (vs := vs) (fun k acc g' => acc = ((xs.take k).filter Pt).map F' ∧ g' = g) (xs.map F) 0 [] g ⟨rfl, rfl⟩ (fun i d acc g' hi hI => by
    obtain ⟨rfl, rfl⟩ := hI
    rw [List.getElem?_map] at hi
    obtain ⟨x, hx, rfl⟩ := Option.map_eq_some_iff.mp hi
    have hlt := (List.getElem?_eq_some_iff.mp hx).1
    have hm := List.mem_of_getElem? hx
    rw [Nat.zero_add]
    have hfl : ((xs.take i).filter Pt).length ≤ i := by
      have a := List.length_filter_le Pt (xs.take i)
      rw [List.length_take] at a
      omega
    have htk : xs.take (i + 1) = xs.take i ++ [x] := by rw [List.take_succ, hx]; rfl
    refine ⟨hp, Gx x, ht x hm, (hc x hm).mono fun n r g2 h => ?_⟩
    obtain ⟨rfl, rfl⟩ := h
    refine wt_bl.mpr (iteb (fun hP => ?_) fun hP => ?_)
    · refine (he x hm hP).mono fun n r g3 h => ?_
      obtain ⟨rfl, rfl⟩ := h
      refine ⟨⟨by rw [List.length_map]; omega, hl x⟩, ?_, hb x⟩
      rw [htk, List.filter_append, List.map_append, List.filter_cons_of_pos hP]
      rfl
    · refine ⟨hl x, ?_, hb x⟩
      rw [htk, List.filter_append, List.map_append, List.filter_cons_of_neg (by rw [hP]; decide)]
      rw [List.filter_nil, List.map_nil, List.append_nil])
  rw [Nat.zero_add, List.length_map, List.take_length] at h2
  subst h2 h3
  exact ⟨_, _, h1, rfl, k⟩
def mK (k : Nat) : Bool := decide (4 ≤ k)
def tK (k : Nat) : Nat := k % 4
theorem tK_lt {k : Nat} : tK k < 4 := Nat.mod_lt _ (by decide)
def nmK (k : Nat) : Str := poseN (mK k) (tK k)
def PT (h w : Nat) (T : Nat → Nat → Nat) (k : Nat) : List Str := tab (dim (tK k) h w) (dim (tK k) w h) (inP (mK k) (tK k) h w T)
theorem PT_ok {h w : Nat} {T : Nat → Nat → Nat} {k : Nat} (hT : SgT h w T) : okL (PT h w T k) := tab_ok fun i j hi hj => hT.lt _ _ (cell_in tK_lt hi hj).1 (cell_in tK_lt hi hj).2
/-- it is alike in no earlier one -/
def unB (h w : Nat) (T : Nat → Nat → Nat) (k : Nat) : Bool := !((List.range k).map (PT h w T)).any fun y => decide (y = PT h w T k)
theorem seen_any {α : Type} [DecidableEq α] (f : Nat → α) (k : Nat) (x : α) : (((List.range k).filter fun k => !((List.range k).map f).any fun y => decide (y = f k)).map f).any (fun y => decide (y = x)) = ((List.range k).map f).any fun y => decide (y = x) := by
  induction k with
  | zero => rfl
  | succ n ih =>
    rw [List.range_succ, List.filter_append, List.map_append, List.map_append, List.any_append, List.any_append, ih]
    by_cases q : (((List.range n).map f).any fun y => decide (y = f n)) = true
    · rw [List.filter_cons_of_neg (by rw [q]; decide), List.filter_nil, List.map_nil, List.any_nil, Bool.or_false, List.map_cons, List.map_nil, List.any_cons, List.any_nil, Bool.or_false]
      by_cases e : f n = x
      · rw [e] at q
        rw [q]; rfl
      · rw [decide_eq_false e, Bool.or_false]
    · rw [Bool.not_eq_true] at q
      rw [List.filter_cons_of_pos (by rw [q]; rfl), List.filter_nil]
end TL
set_option Elab.async false
set_option linter.all false
set_option maxRecDepth 100000
set_option maxHeartbeats 4000000
namespace TL
open PySem PySem.Spec PyProof.Rows L2
local macro_rules | `(tactic| walk_at "ev1") => `(tactic| first
  | with_reducible refine ws_seq.mpr ?_
  | with_reducible refine ws_next.mpr ?_
  | with_reducible refine ws_set ?_
  | with_reducible refine ws_setMu ?_
  | with_reducible refine ws_expr ?_
  | with_reducible refine ws_ret ?_
  | ((with_reducible refine ws_retMu ?_); refine ⟨_, rfl, ?_⟩)
  | with_reducible refine ws_if ?_
  | with_reducible refine ws_setIx ?_
  | with_reducible refine ws_asg ?_
  | with_reducible refine ws_for ?_
  | ((with_reducible refine ws_demote ?_); refine ⟨_, rfl, ?_⟩)
  | ((with_reducible refine we_var.mpr ?_); refine ⟨_, rfl, ?_⟩)
  | with_reducible refine we_c.mpr ?_
  | with_reducible refine we_bin.mpr ?_
  | with_reducible refine we_un.mpr ?_
  | with_reducible refine we_bool' ?_
  | with_reducible refine we_andT.mpr ?_
  | with_reducible refine we_orT.mpr ?_
  | with_reducible refine we_notT.mpr ?_
  | with_reducible refine we_andV.mpr ?_
  | with_reducible refine we_orV.mpr ?_
  | with_reducible refine we_notV.mpr ?_
  | with_reducible refine we_if.mpr ?_
  | with_reducible refine we_lst.mpr ?_
  | with_reducible refine we_tup.mpr ?_
  | with_reducible refine we_B.mpr ?_
  | with_reducible refine we_M.mpr ?_
  | with_reducible refine we_call.mpr ?_
  | ((with_reducible refine we_callIo.mpr ?_); refine ⟨⟨_, rfl⟩, ?_⟩)
  | ((with_reducible refine we_frz.mpr ?_); refine ⟨_, rfl, ?_⟩)
  | ((with_reducible refine we_rd.mpr ?_); refine ⟨⟨_, rfl⟩, ?_⟩)
  | ((with_reducible refine we_rd1.mpr ?_); refine ⟨_, rfl, ?_⟩)
  | ((with_reducible refine we_mut.mpr ?_); refine ⟨⟨_, rfl, rfl⟩, ?_⟩)
  | with_reducible refine we_chain.mpr ?_
  | with_reducible refine we_comp ?_
  | with_reducible refine we_sl ?_
  | with_reducible refine wpo_none ?_
  | with_reducible refine wpo_some ?_
  | with_reducible refine wa_nil.mpr ?_
  | with_reducible refine wa_cons.mpr ?_
  | with_reducible refine wa_items.mpr ?_
  | with_reducible refine wa_of' ?_
  | with_reducible refine wt_bl.mpr ?_
  | with_reducible refine wo_eqI ?_
  | with_reducible refine wo_neI ?_
  | with_reducible refine wo_eqB ?_
  | with_reducible refine wo_neB ?_
  | (with_reducible refine wo_fdiv (by omega) ?_)
  | (with_reducible refine wo_mod (by omega) ?_)
  | ((with_reducible refine wo_mul ?_ ?_); (focus first | (left; omega) | (right; omega)))
  | (refine wo_mk (n := _) (z := _) rfl ?_)
  | with_reducible refine ite_t rfl ?_
  | with_reducible refine ite_f (by decide) ?_
  | refine ⟨_, rfl, ?_⟩
  | refine ⟨rfl, ?_⟩
  | refine ⟨⟨rfl, rfl⟩, ?_⟩
  | refine ⟨⟨_, rfl⟩, ?_⟩
  | refine ⟨by decide, ?_⟩
  | refine ⟨by simp only [List.length_cons, List.length_nil]; decide, ?_⟩
  | refine ⟨by simp only [List.set_cons_succ, List.set_cons_zero, free_suc, free_opt, free_optM, free_im, free_mu, free_no, and_self], ?_⟩
  | refine ⟨_, put_at (by simp only [List.set_cons_succ, List.set_cons_zero, free_suc, free_opt, free_optM, free_im, free_mu, free_no, and_self]), ?_⟩
  | refine ⟨_, gtup2 (by simp only [List.set_cons_succ, List.set_cons_zero, free_suc, free_opt, free_optM, free_im, free_mu, free_no, and_self]) (by simp only [List.set_cons_succ, List.set_cons_zero, free_suc, free_opt, free_optM, free_im, free_mu, free_no, and_self]), ?_⟩
  | with_reducible exact rfl)
local macro_rules | `(tactic| walk_at "ev0") => `(tactic| simp only [argsG, List.map_cons, List.map_nil, List.length_cons, List.length_nil, Nat.reduceAdd, Nat.reduceSub, List.replicate_succ, List.replicate_zero, List.cons_append, List.nil_append, List.set_cons_succ, List.set_cons_zero])
section
variable {h w : Nat} {T : Nat → Nat → Nat}
def unL (h w : Nat) (T : Nat → Nat → Nat) : List Str := ((List.range 8).filter (unB h w T)).map nmK
theorem unlike_ok (h0 : 0 < h) (w0 : 0 < w) (h9 : h < 1000) (w9 : w < 1000) (hT : SgT h w T) : WC Sp.m_unlike_poses 5 [lstS (tab h w T)] fun n d => n = true ∧ d = lstS (unL h w T) := by
  have okT := tab_ok hT.lt
  refine wc_of ?_
  unfold Sp.m_unlike_poses
  repeat (walk_at "ev1")
  refine (check_little_ok h0 w0 (by omega) (by omega) hT).mono fun b d hh => ?_
  subst hh
  repeat (walk_at "ev1")
  try (walk_at "ev0")
  refine ws_items (ds := (List.range 8).map fun k => D.str (nmK k)) (fun i g => ∃ o3 o4, g = [.im (lstS (tab h w T)), .mu (lstS (((List.range i).filter (unB h w T)).map nmK)), .mu (.lst ((((List.range i).filter (unB h w T)).map (PT h w T)).map lstS)), opt o3, opt o4])
    ⟨none, none, rfl⟩ (fun k d g hi hv => ?_) fun g hv => ?_
  · obtain ⟨o3, o4, rfl⟩ := hv
    have hk : k < 8 := by
      have z := (List.getElem?_eq_some_iff.mp hi).1
      rw [List.length_map, List.length_range] at z
      exact z
    rw [List.getElem?_map, List.getElem?_range hk] at hi
    cases hi
    have hfl : ((List.range k).filter (unB h w T)).length ≤ k := by
      have a := List.length_filter_le (unB h w T) (List.range k)
      rw [List.length_range] at a
      exact a
    repeat (walk_at "ev1")
    refine (rows_in_pose_ok (m := mK k) tK_lt h0 w0 h9 w9).mono fun b d hh => ?_
    obtain ⟨rfl, rfl⟩ := hh
    try (walk_at "ev0")
    repeat (walk_at "ev1")
    try (walk_at "ev0")
    refine wo_ninLL (x := PT h w T k) (PT_ok hT) (fun xs hxs => by
      obtain ⟨j, _, rfl⟩ := List.mem_map.mp hxs
      exact PT_ok hT) ?_
    have hs := seen_any (PT h w T) k (PT h w T k)
    have e : (!((((List.range k).filter (unB h w T)).map (PT h w T)).any fun y => decide (y = PT h w T k))) = unB h w T k := by
      unfold unB
      exact congrArg not hs
    rw [e]
    repeat (walk_at "ev1")
    refine iteb (fun hy => ?_) fun hy => ?_
    · repeat (walk_at "ev1")
      refine ⟨_, _, app_at (by rw [List.length_map, List.length_map]; unfold sizeLine; omega), ?_⟩
      repeat (walk_at "ev1")
      try (walk_at "ev0")
      refine ⟨_, _, app_at (by rw [List.length_map, List.length_map]; unfold sizeLine; omega), ?_⟩
      repeat (walk_at "ev1")
      try (walk_at "ev0")
      refine ⟨some (.str (nmK k)), some (lstS (PT h w T k)), ?_⟩
      rw [List.range_succ, List.filter_append, List.filter_cons_of_pos hy, List.filter_nil]
      simp only [lstS, List.map_append, List.map_cons, List.map_nil]
      rfl
    · repeat (walk_at "ev1")
      refine ⟨some (.str (nmK k)), some (lstS (PT h w T k)), ?_⟩
      rw [List.range_succ, List.filter_append, List.filter_cons_of_neg (by rw [hy]; decide), List.filter_nil, List.append_nil]
      rfl
  · obtain ⟨o3, o4, rfl⟩ := hv
    repeat (walk_at "ev1")
    rfl
end
end TL
set_option Elab.async false
set_option linter.all false
set_option maxRecDepth 100000
set_option maxHeartbeats 4000000
namespace TL
open PySem PySem.Spec PyProof.Rows L2
local macro_rules | `(tactic| walk_at "ev1") => `(tactic| first
  | with_reducible refine ws_seq.mpr ?_
  | with_reducible refine ws_next.mpr ?_
  | with_reducible refine ws_set ?_
  | with_reducible refine ws_setMu ?_
  | with_reducible refine ws_expr ?_
  | with_reducible refine ws_ret ?_
  | ((with_reducible refine ws_retMu ?_); refine ⟨_, rfl, ?_⟩)
  | with_reducible refine ws_if ?_
  | with_reducible refine ws_setIx ?_
  | with_reducible refine ws_asg ?_
  | with_reducible refine ws_for ?_
  | ((with_reducible refine ws_demote ?_); refine ⟨_, rfl, ?_⟩)
  | ((with_reducible refine we_var.mpr ?_); refine ⟨_, rfl, ?_⟩)
  | with_reducible refine we_c.mpr ?_
  | with_reducible refine we_bin.mpr ?_
  | with_reducible refine we_un.mpr ?_
  | with_reducible refine we_bool' ?_
  | with_reducible refine we_andT.mpr ?_
  | with_reducible refine we_orT.mpr ?_
  | with_reducible refine we_notT.mpr ?_
  | with_reducible refine we_andV.mpr ?_
  | with_reducible refine we_orV.mpr ?_
  | with_reducible refine we_notV.mpr ?_
  | with_reducible refine we_if.mpr ?_
  | with_reducible refine we_lst.mpr ?_
  | with_reducible refine we_tup.mpr ?_
  | with_reducible refine we_B.mpr ?_
  | with_reducible refine we_M.mpr ?_
  | with_reducible refine we_call.mpr ?_
  | ((with_reducible refine we_callIo.mpr ?_); refine ⟨⟨_, rfl⟩, ?_⟩)
  | ((with_reducible refine we_frz.mpr ?_); refine ⟨_, rfl, ?_⟩)
  | ((with_reducible refine we_rd.mpr ?_); refine ⟨⟨_, rfl⟩, ?_⟩)
  | ((with_reducible refine we_rd1.mpr ?_); refine ⟨_, rfl, ?_⟩)
  | ((with_reducible refine we_mut.mpr ?_); refine ⟨⟨_, rfl, rfl⟩, ?_⟩)
  | with_reducible refine we_chain.mpr ?_
  | with_reducible refine we_comp ?_
  | with_reducible refine we_sl ?_
  | with_reducible refine wpo_none ?_
  | with_reducible refine wpo_some ?_
  | with_reducible refine wa_nil.mpr ?_
  | with_reducible refine wa_cons.mpr ?_
  | with_reducible refine wa_items.mpr ?_
  | with_reducible refine wa_of' ?_
  | with_reducible refine wt_bl.mpr ?_
  | with_reducible refine wo_eqI ?_
  | with_reducible refine wo_neI ?_
  | with_reducible refine wo_eqB ?_
  | with_reducible refine wo_neB ?_
  | (with_reducible refine wo_fdiv (by omega) ?_)
  | (with_reducible refine wo_mod (by omega) ?_)
  | ((with_reducible refine wo_mul ?_ ?_); (focus first | (left; omega) | (right; omega)))
  | (refine wo_mk (n := _) (z := _) rfl ?_)
  | with_reducible refine ite_t rfl ?_
  | with_reducible refine ite_f (by decide) ?_
  | refine ⟨_, rfl, ?_⟩
  | refine ⟨rfl, ?_⟩
  | refine ⟨⟨rfl, rfl⟩, ?_⟩
  | refine ⟨⟨_, rfl⟩, ?_⟩
  | refine ⟨by decide, ?_⟩
  | refine ⟨by simp only [List.length_cons, List.length_nil]; decide, ?_⟩
  | refine ⟨by simp only [List.set_cons_succ, List.set_cons_zero, free_suc, free_opt, free_optM, free_im, free_mu, free_no, and_self], ?_⟩
  | refine ⟨_, put_at (by simp only [List.set_cons_succ, List.set_cons_zero, free_suc, free_opt, free_optM, free_im, free_mu, free_no, and_self]), ?_⟩
  | refine ⟨_, gtup2 (by simp only [List.set_cons_succ, List.set_cons_zero, free_suc, free_opt, free_optM, free_im, free_mu, free_no, and_self]) (by simp only [List.set_cons_succ, List.set_cons_zero, free_suc, free_opt, free_optM, free_im, free_mu, free_no, and_self]), ?_⟩
  | with_reducible exact rfl)
local macro_rules | `(tactic| walk_at "ev0") => `(tactic| simp only [argsG, List.map_cons, List.map_nil, List.length_cons, List.length_nil, Nat.reduceAdd, Nat.reduceSub, List.replicate_succ, List.replicate_zero, List.cons_append, List.nil_append, List.set_cons_succ, List.set_cons_zero])
local macro_rules | `(tactic| walk_at "ev2") => `(tactic| first
  | with_reducible refine ws_par ?_
  | with_reducible refine we_disp ?_
  | with_reducible refine we_dnew ?_
  | with_reducible refine wa_pairs0 ?_
  | with_reducible refine wa_pairs1 ?_
  | with_reducible refine wo_ixTab0 (by omega) ?_
  | with_reducible refine wo_lenTxt (by omega) ?_
  | with_reducible refine wo_lenTab ?_
  | refine ⟨_, _, rfl, ?_⟩
  | walk_at "ev1")
theorem is_whole_ok {i : Int} : WC Sp.m_is_whole 1 [.int i] fun n d => n = false ∧ d = .bl true := ⟨_, _, _, rfl, rfl, rfl⟩
theorem is_count_ok {i : Int} (h : 0 ≤ i) : WC Sp.m_is_count 1 [.int i] fun n d => n = false ∧ d = .bl true := by
  refine wc_of ?_
  unfold Sp.m_is_count
  repeat (walk_at "ev2")
  refine is_whole_ok.mono fun n d hh => ?_
  obtain ⟨rfl, rfl⟩ := hh
  repeat (walk_at "ev2")
  rw [decide_eq_true h]
section
variable {h w : Nat} {T : Nat → Nat → Nat} {i j : Int}
end
end TL
set_option Elab.async false
set_option linter.all false
set_option maxRecDepth 100000
set_option maxHeartbeats 4000000
namespace TL
open PySem PySem.Spec PyProof.Rows L2
def numP (p : Bool × Nat) : Nat := (if p.1 then 4 else 0) + p.2
/-- first i, then j -/
def kb (i j : Nat) : Nat := numP (behN (mK i) (tK i) (mK j) (tK j))
section
variable {h w : Nat} {T : Nat → Nat → Nat}
end
end TL
namespace TL
open PySem PySem.Spec PyProof.Rows L2
end TL
namespace TL
open PySem PySem.Spec PyProof.Rows L2
section
variable {h w : Nat} {T : Nat → Nat → Nat}
end
end TL
namespace TL
open PySem PySem.Spec PyProof.Rows L2
theorem zip_maps {α : Type} (f g : α → D) : ∀ xs : List α, zipL (xs.map f) (xs.map g) = xs.map fun x => .tup [f x, g x]
  | [] => rfl
  | x :: xs => by
    rw [List.map_cons, List.map_cons, zipL, zip_maps f g xs]
    rfl
theorem zipX_maps {α : Type} {f g : α → D} {xs : List α} : zipX [.lst (xs.map f), .lst (xs.map g)] = some (xs.map fun x => .tup [f x, g x]) := by
  rw [← zip_maps]
  rfl
end TL
set_option Elab.async false
set_option linter.all false
set_option maxRecDepth 100000
set_option maxHeartbeats 4000000
namespace TL
open PySem PySem.Spec PyProof.Rows L2 PySem.W
theorem pyLS_maps {α : Type} {f : α → D} {g : α → PyData} (h : ∀ x, pyS (f x) = some (g x)) : ∀ xs : List α, pyLS (xs.map f) = some (xs.map g)
  | [] => rfl
  | x :: xs => by rw [List.map_cons, List.map_cons, pyLS, h, pyLS_maps h xs]
theorem depth_maps {α : Type} {g : α → PyData} {n : Nat} (h : ∀ x, (g x).depth ≤ n) : ∀ xs : List α, PyData.depthAll (xs.map g) ≤ n
  | [] => by rw [List.map_nil, PyData.depthAll]; exact Nat.zero_le _
  | x :: xs => by
    rw [List.map_cons, PyData.depthAll]
    have h1 := h x
    have := depth_maps h xs
    omega
end TL
set_option Elab.async false
set_option linter.all false
set_option maxRecDepth 100000
set_option maxHeartbeats 4000000
namespace TL
open PySem PySem.Spec PyProof.Rows L2
local macro_rules | `(tactic| walk_at "ev1") => `(tactic| first
  | with_reducible refine ws_seq.mpr ?_
  | with_reducible refine ws_next.mpr ?_
  | with_reducible refine ws_set ?_
  | with_reducible refine ws_setMu ?_
  | with_reducible refine ws_expr ?_
  | with_reducible refine ws_ret ?_
  | ((with_reducible refine ws_retMu ?_); refine ⟨_, rfl, ?_⟩)
  | with_reducible refine ws_if ?_
  | with_reducible refine ws_setIx ?_
  | with_reducible refine ws_asg ?_
  | with_reducible refine ws_for ?_
  | ((with_reducible refine ws_demote ?_); refine ⟨_, rfl, ?_⟩)
  | ((with_reducible refine we_var.mpr ?_); refine ⟨_, rfl, ?_⟩)
  | with_reducible refine we_c.mpr ?_
  | with_reducible refine we_bin.mpr ?_
  | with_reducible refine we_un.mpr ?_
  | with_reducible refine we_bool' ?_
  | with_reducible refine we_andT.mpr ?_
  | with_reducible refine we_orT.mpr ?_
  | with_reducible refine we_notT.mpr ?_
  | with_reducible refine we_andV.mpr ?_
  | with_reducible refine we_orV.mpr ?_
  | with_reducible refine we_notV.mpr ?_
  | with_reducible refine we_if.mpr ?_
  | with_reducible refine we_lst.mpr ?_
  | with_reducible refine we_tup.mpr ?_
  | with_reducible refine we_B.mpr ?_
  | with_reducible refine we_M.mpr ?_
  | with_reducible refine we_call.mpr ?_
  | ((with_reducible refine we_callIo.mpr ?_); refine ⟨⟨_, rfl⟩, ?_⟩)
  | ((with_reducible refine we_frz.mpr ?_); refine ⟨_, rfl, ?_⟩)
  | ((with_reducible refine we_rd.mpr ?_); refine ⟨⟨_, rfl⟩, ?_⟩)
  | ((with_reducible refine we_rd1.mpr ?_); refine ⟨_, rfl, ?_⟩)
  | ((with_reducible refine we_mut.mpr ?_); refine ⟨⟨_, rfl, rfl⟩, ?_⟩)
  | with_reducible refine we_chain.mpr ?_
  | with_reducible refine we_comp ?_
  | with_reducible refine we_sl ?_
  | with_reducible refine wpo_none ?_
  | with_reducible refine wpo_some ?_
  | with_reducible refine wa_nil.mpr ?_
  | with_reducible refine wa_cons.mpr ?_
  | with_reducible refine wa_items.mpr ?_
  | with_reducible refine wa_of' ?_
  | with_reducible refine wt_bl.mpr ?_
  | with_reducible refine wo_eqI ?_
  | with_reducible refine wo_neI ?_
  | with_reducible refine wo_eqB ?_
  | with_reducible refine wo_neB ?_
  | (with_reducible refine wo_fdiv (by omega) ?_)
  | (with_reducible refine wo_mod (by omega) ?_)
  | ((with_reducible refine wo_mul ?_ ?_); (focus first | (left; omega) | (right; omega)))
  | (refine wo_mk (n := _) (z := _) rfl ?_)
  | with_reducible refine ite_t rfl ?_
  | with_reducible refine ite_f (by decide) ?_
  | refine ⟨_, rfl, ?_⟩
  | refine ⟨rfl, ?_⟩
  | refine ⟨⟨rfl, rfl⟩, ?_⟩
  | refine ⟨⟨_, rfl⟩, ?_⟩
  | refine ⟨by decide, ?_⟩
  | refine ⟨by simp only [List.length_cons, List.length_nil]; decide, ?_⟩
  | refine ⟨by simp only [List.set_cons_succ, List.set_cons_zero, free_suc, free_opt, free_optM, free_im, free_mu, free_no, and_self], ?_⟩
  | refine ⟨_, put_at (by simp only [List.set_cons_succ, List.set_cons_zero, free_suc, free_opt, free_optM, free_im, free_mu, free_no, and_self]), ?_⟩
  | refine ⟨_, gtup2 (by simp only [List.set_cons_succ, List.set_cons_zero, free_suc, free_opt, free_optM, free_im, free_mu, free_no, and_self]) (by simp only [List.set_cons_succ, List.set_cons_zero, free_suc, free_opt, free_optM, free_im, free_mu, free_no, and_self]), ?_⟩
  | with_reducible exact rfl)
local macro_rules | `(tactic| walk_at "ev0") => `(tactic| simp only [argsG, List.map_cons, List.map_nil, List.length_cons, List.length_nil, Nat.reduceAdd, Nat.reduceSub, List.replicate_succ, List.replicate_zero, List.cons_append, List.nil_append, List.set_cons_succ, List.set_cons_zero])
section
variable {h w : Nat} {T : Nat → Nat → Nat} {h' w' : Nat} {L : Nat → Nat → Nat}
end
end TL
set_option Elab.async false
set_option linter.all false
set_option maxRecDepth 100000
set_option maxHeartbeats 4000000
namespace N7
open PySem PySem.Spec PyProof.Rows L2 TL
local macro_rules | `(tactic| walk_at "ev1") => `(tactic| first
  | with_reducible refine ws_seq.mpr ?_
  | with_reducible refine ws_next.mpr ?_
  | with_reducible refine ws_set ?_
  | with_reducible refine ws_setMu ?_
  | with_reducible refine ws_expr ?_
  | with_reducible refine ws_ret ?_
  | ((with_reducible refine ws_retMu ?_); refine ⟨_, rfl, ?_⟩)
  | with_reducible refine ws_if ?_
  | with_reducible refine ws_setIx ?_
  | with_reducible refine ws_asg ?_
  | with_reducible refine ws_for ?_
  | ((with_reducible refine ws_demote ?_); refine ⟨_, rfl, ?_⟩)
  | ((with_reducible refine we_var.mpr ?_); refine ⟨_, rfl, ?_⟩)
  | with_reducible refine we_c.mpr ?_
  | with_reducible refine we_bin.mpr ?_
  | with_reducible refine we_un.mpr ?_
  | with_reducible refine we_bool' ?_
  | with_reducible refine we_andT.mpr ?_
  | with_reducible refine we_orT.mpr ?_
  | with_reducible refine we_notT.mpr ?_
  | with_reducible refine we_andV.mpr ?_
  | with_reducible refine we_orV.mpr ?_
  | with_reducible refine we_notV.mpr ?_
  | with_reducible refine we_if.mpr ?_
  | with_reducible refine we_lst.mpr ?_
  | with_reducible refine we_tup.mpr ?_
  | with_reducible refine we_B.mpr ?_
  | with_reducible refine we_M.mpr ?_
  | with_reducible refine we_call.mpr ?_
  | ((with_reducible refine we_callIo.mpr ?_); refine ⟨⟨_, rfl⟩, ?_⟩)
  | ((with_reducible refine we_frz.mpr ?_); refine ⟨_, rfl, ?_⟩)
  | ((with_reducible refine we_rd.mpr ?_); refine ⟨⟨_, rfl⟩, ?_⟩)
  | ((with_reducible refine we_rd1.mpr ?_); refine ⟨_, rfl, ?_⟩)
  | ((with_reducible refine we_mut.mpr ?_); refine ⟨⟨_, rfl, rfl⟩, ?_⟩)
  | with_reducible refine we_chain.mpr ?_
  | with_reducible refine we_comp ?_
  | with_reducible refine we_sl ?_
  | with_reducible refine wpo_none ?_
  | with_reducible refine wpo_some ?_
  | with_reducible refine wa_nil.mpr ?_
  | with_reducible refine wa_cons.mpr ?_
  | with_reducible refine wa_items.mpr ?_
  | with_reducible refine wa_of' ?_
  | with_reducible refine wt_bl.mpr ?_
  | with_reducible refine wo_eqI ?_
  | with_reducible refine wo_neI ?_
  | with_reducible refine wo_eqB ?_
  | with_reducible refine wo_neB ?_
  | (with_reducible refine wo_fdiv (by omega) ?_)
  | (with_reducible refine wo_mod (by omega) ?_)
  | ((with_reducible refine wo_mul ?_ ?_); (focus first | (left; omega) | (right; omega)))
  | (refine wo_mk (n := _) (z := _) rfl ?_)
  | with_reducible refine ite_t rfl ?_
  | with_reducible refine ite_f (by decide) ?_
  | refine ⟨_, rfl, ?_⟩
  | refine ⟨rfl, ?_⟩
  | refine ⟨⟨rfl, rfl⟩, ?_⟩
  | refine ⟨⟨_, rfl⟩, ?_⟩
  | refine ⟨by decide, ?_⟩
  | refine ⟨by simp only [List.length_cons, List.length_nil]; decide, ?_⟩
  | refine ⟨by simp only [List.set_cons_succ, List.set_cons_zero, free_suc, free_opt, free_optM, free_im, free_mu, free_no, and_self], ?_⟩
  | refine ⟨_, put_at (by simp only [List.set_cons_succ, List.set_cons_zero, free_suc, free_opt, free_optM, free_im, free_mu, free_no, and_self]), ?_⟩
  | refine ⟨_, gtup2 (by simp only [List.set_cons_succ, List.set_cons_zero, free_suc, free_opt, free_optM, free_im, free_mu, free_no, and_self]) (by simp only [List.set_cons_succ, List.set_cons_zero, free_suc, free_opt, free_optM, free_im, free_mu, free_no, and_self]), ?_⟩
  | with_reducible exact rfl)
def SgN (c : Nat) : Prop := (33 ≤ c ∧ c ≤ 126) ∧ c ≠ 37
def TN (h w : Nat) (T : Nat → Nat → Nat) : Prop := ∀ i j, i < h → j < w → SgN (T i j)
theorem TN.sg {h w : Nat} {T : Nat → Nat → Nat} (t : TN h w T) : SgT h w T := fun i j hi hj => (t i j hi hj).1
end N7
set_option Elab.async false
set_option linter.all false
set_option maxRecDepth 100000
set_option maxHeartbeats 4000000
namespace N7
open PySem PySem.Spec PyProof.Rows L2 TL
local macro_rules | `(tactic| walk_at "ev1") => `(tactic| first
  | with_reducible refine ws_seq.mpr ?_
  | with_reducible refine ws_next.mpr ?_
  | with_reducible refine ws_set ?_
  | with_reducible refine ws_setMu ?_
  | with_reducible refine ws_expr ?_
  | with_reducible refine ws_ret ?_
  | ((with_reducible refine ws_retMu ?_); refine ⟨_, rfl, ?_⟩)
  | with_reducible refine ws_if ?_
  | with_reducible refine ws_setIx ?_
  | with_reducible refine ws_asg ?_
  | with_reducible refine ws_for ?_
  | ((with_reducible refine ws_demote ?_); refine ⟨_, rfl, ?_⟩)
  | ((with_reducible refine we_var.mpr ?_); refine ⟨_, rfl, ?_⟩)
  | with_reducible refine we_c.mpr ?_
  | with_reducible refine we_bin.mpr ?_
  | with_reducible refine we_un.mpr ?_
  | with_reducible refine we_bool' ?_
  | with_reducible refine we_andT.mpr ?_
  | with_reducible refine we_orT.mpr ?_
  | with_reducible refine we_notT.mpr ?_
  | with_reducible refine we_andV.mpr ?_
  | with_reducible refine we_orV.mpr ?_
  | with_reducible refine we_notV.mpr ?_
  | with_reducible refine we_if.mpr ?_
  | with_reducible refine we_lst.mpr ?_
  | with_reducible refine we_tup.mpr ?_
  | with_reducible refine we_B.mpr ?_
  | with_reducible refine we_M.mpr ?_
  | with_reducible refine we_call.mpr ?_
  | ((with_reducible refine we_callIo.mpr ?_); refine ⟨⟨_, rfl⟩, ?_⟩)
  | ((with_reducible refine we_frz.mpr ?_); refine ⟨_, rfl, ?_⟩)
  | ((with_reducible refine we_rd.mpr ?_); refine ⟨⟨_, rfl⟩, ?_⟩)
  | ((with_reducible refine we_rd1.mpr ?_); refine ⟨_, rfl, ?_⟩)
  | ((with_reducible refine we_mut.mpr ?_); refine ⟨⟨_, rfl, rfl⟩, ?_⟩)
  | with_reducible refine we_chain.mpr ?_
  | with_reducible refine we_comp ?_
  | with_reducible refine we_sl ?_
  | with_reducible refine wpo_none ?_
  | with_reducible refine wpo_some ?_
  | with_reducible refine wa_nil.mpr ?_
  | with_reducible refine wa_cons.mpr ?_
  | with_reducible refine wa_items.mpr ?_
  | with_reducible refine wa_of' ?_
  | with_reducible refine wt_bl.mpr ?_
  | with_reducible refine wo_eqI ?_
  | with_reducible refine wo_neI ?_
  | with_reducible refine wo_eqB ?_
  | with_reducible refine wo_neB ?_
  | (with_reducible refine wo_fdiv (by omega) ?_)
  | (with_reducible refine wo_mod (by omega) ?_)
  | ((with_reducible refine wo_mul ?_ ?_); (focus first | (left; omega) | (right; omega)))
  | (refine wo_mk (n := _) (z := _) rfl ?_)
  | with_reducible refine ite_t rfl ?_
  | with_reducible refine ite_f (by decide) ?_
  | refine ⟨_, rfl, ?_⟩
  | refine ⟨rfl, ?_⟩
  | refine ⟨⟨rfl, rfl⟩, ?_⟩
  | refine ⟨⟨_, rfl⟩, ?_⟩
  | refine ⟨by decide, ?_⟩
  | refine ⟨by simp only [List.length_cons, List.length_nil]; decide, ?_⟩
  | refine ⟨by simp only [List.set_cons_succ, List.set_cons_zero, free_suc, free_opt, free_optM, free_im, free_mu, free_no, and_self], ?_⟩
  | refine ⟨_, put_at (by simp only [List.set_cons_succ, List.set_cons_zero, free_suc, free_opt, free_optM, free_im, free_mu, free_no, and_self]), ?_⟩
  | refine ⟨_, gtup2 (by simp only [List.set_cons_succ, List.set_cons_zero, free_suc, free_opt, free_optM, free_im, free_mu, free_no, and_self]) (by simp only [List.set_cons_succ, List.set_cons_zero, free_suc, free_opt, free_optM, free_im, free_mu, free_no, and_self]), ?_⟩
  | with_reducible exact rfl)
local macro_rules | `(tactic| walk_at "ev0") => `(tactic| simp only [argsG, List.map_cons, List.map_nil, List.length_cons, List.length_nil, Nat.reduceAdd, Nat.reduceSub, List.replicate_succ, List.replicate_zero, List.cons_append, List.nil_append, List.set_cons_succ, List.set_cons_zero])
/-- can be shown; of at most this weight and depth -/
def okTh (W K : Nat) (d : D) : Prop := ∃ p, pyR d = some p ∧ p.showable = true ∧ p.leavesShort 13 = true ∧ p.weight ≤ W ∧ p.depth ≤ K
theorem okTh.mono {W K W' K' : Nat} {d : D} (h : okTh W K d) (hw : W ≤ W') (hk : K ≤ K') : okTh W' K' d := by
  obtain ⟨p, h1, h2, h3, h4, h5⟩ := h
  exact ⟨p, h1, h2, h3, by omega, by omega⟩
def okS (s : Str) : Prop := s.length ≤ 300 ∧ ∀ c ∈ s.cps.toList, c < 1114112 ∧ c ≠ 37
theorem okS.ok {s : Str} (h : okS s) : PyData.strOk s = true := by
  unfold PyData.strOk
  first
  | exact List.all_eq_true.mpr fun c hc => decide_eq_true (h.2 c hc).1
  | (rw [Array.all_eq_true']; intro c hc; exact decide_eq_true (h.2 c (by simpa using hc)).1)
theorem th_non : okTh 0 0 .non := ⟨.none, rfl, by rw [PyData.showable], by rw [PyData.leavesShort], by rw [PyData.weight]; exact Nat.le_refl _, by rw [PyData.depth]; exact Nat.le_refl _⟩
theorem th_int {i : Int} (h : i.natAbs < 10 ^ 12) : okTh 40 0 (.int i) := by
  have h40 : i.natAbs < 2 ^ 40 := Nat.lt_of_lt_of_le h (by decide)
  refine ⟨.int i, rfl, ?_, ?_, ?_, by rw [PyData.depth]; exact Nat.le_refl _⟩
  · rw [PyData.showable, decide_eq_true_eq]
    by_cases e : i.natAbs = 0
    · rw [e]; decide
    · have := (Nat.log2_lt e).mpr h40
      omega
  · rw [PyData.leavesShort]
    exact decide_eq_true (PyData.shown_int_le h)
  · rw [PyData.weight]
    split
    · exact Nat.zero_le _
    · by_cases e : i.natAbs = 0
      · rw [e]; decide
      · have := (Nat.log2_lt e).mpr h40
        omega
theorem th_all {W K : Nat} : ∀ {ds : List D}, (∀ e ∈ ds, okTh W K e) → ∃ ps, pyRL ds = some ps ∧ PyData.showableAll ps = true ∧ PyData.leavesShortAll 13 ps = true ∧ PyData.weightAll ps ≤ ds.length * (W + 1) ∧ PyData.depthAll ps ≤ K
  | [], _ => ⟨[], rfl, by rw [PyData.showableAll], by rw [PyData.leavesShortAll], by rw [PyData.weightAll]; exact Nat.zero_le _, by rw [PyData.depthAll]; exact Nat.zero_le _⟩
  | d :: ds, h => by
    obtain ⟨p, h1, h2, h3, h4, h5⟩ := h d (List.mem_cons_self ..)
    obtain ⟨ps, g1, g2, g3, g4, g5⟩ := th_all fun e he => h e (List.mem_cons_of_mem _ he)
    refine ⟨p :: ps, by unfold pyRL; rw [h1, g1], by rw [PyData.showableAll, h2, g2]; rfl, by rw [PyData.leavesShortAll, h3, g3]; rfl, ?_, ?_⟩
    · rw [PyData.weightAll, List.length_cons, Nat.succ_mul]
      omega
    · rw [PyData.depthAll]
      omega
theorem th_lst {W K : Nat} {ds : List D} (h : ∀ e ∈ ds, okTh W K e) : okTh (ds.length * (W + 1)) (K + 1) (.lst ds) := by
  obtain ⟨ps, g1, g2, g3, g4, g5⟩ := th_all h
  exact ⟨.list ps, by unfold pyR; rw [g1]; rfl, by rw [PyData.showable]; exact g2, by rw [PyData.leavesShort]; exact g3, by rw [PyData.weight]; exact g4, by rw [PyData.depth]; omega⟩
theorem th_tup {W K : Nat} {ds : List D} (h : ∀ e ∈ ds, okTh W K e) : okTh (ds.length * (W + 1)) (K + 1) (.tup ds) := by
  obtain ⟨ps, g1, g2, g3, g4, g5⟩ := th_all h
  exact ⟨.tuple ps, by unfold pyR; rw [g1]; rfl, by rw [PyData.showable]; exact g2, by rw [PyData.leavesShort]; exact g3, by rw [PyData.weight]; exact g4, by rw [PyData.depth]; omega⟩
/-- what can be shown is shown -/
theorem th_repr {W K : Nat} {d : D} (h : okTh W K d) (hro : isRo d = false) (hw : W ≤ 1048576) (hk : K ≤ 60) : ∃ s, ∀ {P : Bool → D → Prop}, P false (.str s) → WO (reprA [d]) P := by
  obtain ⟨p, h1, h2, h3, h4, h5⟩ := h
  refine ⟨p.shown, fun k => wo_repr h1 hro ?_ k⟩
  unfold reprOkA
  rw [h2, Bool.true_and, Bool.and_eq_true, decide_eq_true_eq, decide_eq_true_eq]
  exact ⟨PyData.shown_fits (B := 13) (by decide) (by decide) h3 (Nat.le_trans h4 (Nat.le_trans hw (by decide))), by omega⟩
def isData : D → Bool
  | .ro _ => false
  | .ob _ => false
  | .exc _ => false
  | .cls _ => false
  | .dit _ => false
  | _ => true
def rowOk : D → Prop
  | .str s => okS s
  | d => isData d = true
def thing : D → Prop
  | .lst ds => ds.length ≤ 1000 ∧ ∀ e ∈ ds, rowOk e
  | d => isData d = true
def signB (c : Nat) : Bool := decide (33 ≤ c ∧ c ≤ 126)
end N7
namespace N7
open PySem PySem.Spec PyProof.Rows L2 TL
local macro_rules | `(tactic| walk_at "ev1") => `(tactic| first
  | with_reducible refine ws_seq.mpr ?_
  | with_reducible refine ws_next.mpr ?_
  | with_reducible refine ws_set ?_
  | with_reducible refine ws_setMu ?_
  | with_reducible refine ws_expr ?_
  | with_reducible refine ws_ret ?_
  | ((with_reducible refine ws_retMu ?_); refine ⟨_, rfl, ?_⟩)
  | with_reducible refine ws_if ?_
  | with_reducible refine ws_setIx ?_
  | with_reducible refine ws_asg ?_
  | with_reducible refine ws_for ?_
  | ((with_reducible refine ws_demote ?_); refine ⟨_, rfl, ?_⟩)
  | ((with_reducible refine we_var.mpr ?_); refine ⟨_, rfl, ?_⟩)
  | with_reducible refine we_c.mpr ?_
  | with_reducible refine we_bin.mpr ?_
  | with_reducible refine we_un.mpr ?_
  | with_reducible refine we_bool' ?_
  | with_reducible refine we_andT.mpr ?_
  | with_reducible refine we_orT.mpr ?_
  | with_reducible refine we_notT.mpr ?_
  | with_reducible refine we_andV.mpr ?_
  | with_reducible refine we_orV.mpr ?_
  | with_reducible refine we_notV.mpr ?_
  | with_reducible refine we_if.mpr ?_
  | with_reducible refine we_lst.mpr ?_
  | with_reducible refine we_tup.mpr ?_
  | with_reducible refine we_B.mpr ?_
  | with_reducible refine we_M.mpr ?_
  | with_reducible refine we_call.mpr ?_
  | ((with_reducible refine we_callIo.mpr ?_); refine ⟨⟨_, rfl⟩, ?_⟩)
  | ((with_reducible refine we_frz.mpr ?_); refine ⟨_, rfl, ?_⟩)
  | ((with_reducible refine we_rd.mpr ?_); refine ⟨⟨_, rfl⟩, ?_⟩)
  | ((with_reducible refine we_rd1.mpr ?_); refine ⟨_, rfl, ?_⟩)
  | ((with_reducible refine we_mut.mpr ?_); refine ⟨⟨_, rfl, rfl⟩, ?_⟩)
  | with_reducible refine we_chain.mpr ?_
  | with_reducible refine we_comp ?_
  | with_reducible refine we_sl ?_
  | with_reducible refine wpo_none ?_
  | with_reducible refine wpo_some ?_
  | with_reducible refine wa_nil.mpr ?_
  | with_reducible refine wa_cons.mpr ?_
  | with_reducible refine wa_items.mpr ?_
  | with_reducible refine wa_of' ?_
  | with_reducible refine wt_bl.mpr ?_
  | with_reducible refine wo_eqI ?_
  | with_reducible refine wo_neI ?_
  | with_reducible refine wo_eqB ?_
  | with_reducible refine wo_neB ?_
  | (with_reducible refine wo_fdiv (by omega) ?_)
  | (with_reducible refine wo_mod (by omega) ?_)
  | ((with_reducible refine wo_mul ?_ ?_); (focus first | (left; omega) | (right; omega)))
  | (refine wo_mk (n := _) (z := _) rfl ?_)
  | with_reducible refine ite_t rfl ?_
  | with_reducible refine ite_f (by decide) ?_
  | refine ⟨_, rfl, ?_⟩
  | refine ⟨rfl, ?_⟩
  | refine ⟨⟨rfl, rfl⟩, ?_⟩
  | refine ⟨⟨_, rfl⟩, ?_⟩
  | refine ⟨by decide, ?_⟩
  | refine ⟨by simp only [List.length_cons, List.length_nil]; decide, ?_⟩
  | refine ⟨by simp only [List.set_cons_succ, List.set_cons_zero, free_suc, free_opt, free_optM, free_im, free_mu, free_no, and_self], ?_⟩
  | refine ⟨_, put_at (by simp only [List.set_cons_succ, List.set_cons_zero, free_suc, free_opt, free_optM, free_im, free_mu, free_no, and_self]), ?_⟩
  | refine ⟨_, gtup2 (by simp only [List.set_cons_succ, List.set_cons_zero, free_suc, free_opt, free_optM, free_im, free_mu, free_no, and_self]) (by simp only [List.set_cons_succ, List.set_cons_zero, free_suc, free_opt, free_optM, free_im, free_mu, free_no, and_self]), ?_⟩
  | with_reducible exact rfl)
local macro_rules | `(tactic| walk_at "ev0") => `(tactic| simp only [argsG, List.map_cons, List.map_nil, List.length_cons, List.length_nil, Nat.reduceAdd, Nat.reduceSub, List.replicate_succ, List.replicate_zero, List.cons_append, List.nil_append, List.set_cons_succ, List.set_cons_zero])
theorem bls_map {α : Type} (f : α → Bool) : ∀ xs : List α, blsD (xs.map fun x => .bl (f x)) = some (xs.map f)
  | [] => rfl
  | x :: xs => by rw [List.map_cons, List.map_cons, blsD, bls_map f xs]
theorem wo_all {α : Type} {f : α → Bool} {xs : List α} {P : Bool → D → Prop} (k : P false (.bl (xs.all f))) : WO (allD [.lst (xs.map fun x => .bl (f x))]) P := by
  refine ⟨_, _, ?_, k⟩
  unfold allD
  simp only [bls_map]
  rw [List.all_map]
  rfl
theorem lo_dec {c : Nat} : strLt (sg c) "!" = decide (c < 33) := by
  by_cases h : c < 33
  · rw [decide_eq_true h]
    exact decide_eq_true (show [c] < [33] from List.Lex.rel h)
  · rw [decide_eq_false h]
    exact lt_lo (by omega)
theorem hi_dec {c : Nat} : strLt "~" (sg c) = decide (126 < c) := by
  by_cases h : 126 < c
  · rw [decide_eq_true h]
    exact decide_eq_true (show [126] < [c] from List.Lex.rel h)
  · rw [decide_eq_false h]
    exact lt_hi (by omega)
theorem signs_ok {s : Str} (hs : okS s) : WC Sp.m__has_signs_only 2 [.str s] fun n d => n = false ∧ d = .bl (s.cps.toList.all signB) := by
  refine wc_of ?_
  unfold Sp.m__has_signs_only
  repeat (walk_at "ev1")
  refine comp_mapL (xs := s.cps.toList) (F := fun c => .str (sg c)) (F' := fun c => .bl (signB c)) rfl (show 1 < 2 by decide) (by have := hs.1; unfold sizeLine; show s.cps.toList.length ≤ _; rw [Array.length_toList]; show s.length ≤ _; omega) (fun c hc => ?_) ?_
  · repeat (walk_at "ev1")
    rw [lo_dec]
    by_cases h1 : c < 33
    · rw [decide_eq_true h1]
      repeat (walk_at "ev1")
      rw [show signB c = false from decide_eq_false (by omega)]
      exact ⟨rfl, rfl⟩
    · rw [decide_eq_false h1]
      repeat (walk_at "ev1")
      rw [hi_dec]
      by_cases h2 : 126 < c
      · rw [decide_eq_true h2, show signB c = false from decide_eq_false (by omega)]
        exact ⟨rfl, rfl⟩
      · rw [decide_eq_false h2, show signB c = true from decide_eq_true (by omega)]
        exact ⟨rfl, rfl⟩
  · repeat (walk_at "ev1")
    refine wo_all ?_
    repeat (walk_at "ev1")
end N7
set_option Elab.async false
set_option linter.all false
set_option maxRecDepth 100000
set_option maxHeartbeats 4000000
namespace N7
open PySem PySem.Spec PyProof.Rows L2 TL
local macro_rules | `(tactic| walk_at "ev1") => `(tactic| first
  | with_reducible refine ws_seq.mpr ?_
  | with_reducible refine ws_next.mpr ?_
  | with_reducible refine ws_set ?_
  | with_reducible refine ws_setMu ?_
  | with_reducible refine ws_expr ?_
  | with_reducible refine ws_ret ?_
  | ((with_reducible refine ws_retMu ?_); refine ⟨_, rfl, ?_⟩)
  | with_reducible refine ws_if ?_
  | with_reducible refine ws_setIx ?_
  | with_reducible refine ws_asg ?_
  | with_reducible refine ws_for ?_
  | ((with_reducible refine ws_demote ?_); refine ⟨_, rfl, ?_⟩)
  | ((with_reducible refine we_var.mpr ?_); refine ⟨_, rfl, ?_⟩)
  | with_reducible refine we_c.mpr ?_
  | with_reducible refine we_bin.mpr ?_
  | with_reducible refine we_un.mpr ?_
  | with_reducible refine we_bool' ?_
  | with_reducible refine we_andT.mpr ?_
  | with_reducible refine we_orT.mpr ?_
  | with_reducible refine we_notT.mpr ?_
  | with_reducible refine we_andV.mpr ?_
  | with_reducible refine we_orV.mpr ?_
  | with_reducible refine we_notV.mpr ?_
  | with_reducible refine we_if.mpr ?_
  | with_reducible refine we_lst.mpr ?_
  | with_reducible refine we_tup.mpr ?_
  | with_reducible refine we_B.mpr ?_
  | with_reducible refine we_M.mpr ?_
  | with_reducible refine we_call.mpr ?_
  | ((with_reducible refine we_callIo.mpr ?_); refine ⟨⟨_, rfl⟩, ?_⟩)
  | ((with_reducible refine we_frz.mpr ?_); refine ⟨_, rfl, ?_⟩)
  | ((with_reducible refine we_rd.mpr ?_); refine ⟨⟨_, rfl⟩, ?_⟩)
  | ((with_reducible refine we_rd1.mpr ?_); refine ⟨_, rfl, ?_⟩)
  | ((with_reducible refine we_mut.mpr ?_); refine ⟨⟨_, rfl, rfl⟩, ?_⟩)
  | with_reducible refine we_chain.mpr ?_
  | with_reducible refine we_comp ?_
  | with_reducible refine we_sl ?_
  | with_reducible refine wpo_none ?_
  | with_reducible refine wpo_some ?_
  | with_reducible refine wa_nil.mpr ?_
  | with_reducible refine wa_cons.mpr ?_
  | with_reducible refine wa_items.mpr ?_
  | with_reducible refine wa_of' ?_
  | with_reducible refine wt_bl.mpr ?_
  | with_reducible refine wo_eqI ?_
  | with_reducible refine wo_neI ?_
  | with_reducible refine wo_eqB ?_
  | with_reducible refine wo_neB ?_
  | (with_reducible refine wo_fdiv (by omega) ?_)
  | (with_reducible refine wo_mod (by omega) ?_)
  | ((with_reducible refine wo_mul ?_ ?_); (focus first | (left; omega) | (right; omega)))
  | (refine wo_mk (n := _) (z := _) rfl ?_)
  | with_reducible refine ite_t rfl ?_
  | with_reducible refine ite_f (by decide) ?_
  | refine ⟨_, rfl, ?_⟩
  | refine ⟨rfl, ?_⟩
  | refine ⟨⟨rfl, rfl⟩, ?_⟩
  | refine ⟨⟨_, rfl⟩, ?_⟩
  | refine ⟨by decide, ?_⟩
  | refine ⟨by simp only [List.length_cons, List.length_nil]; decide, ?_⟩
  | refine ⟨by simp only [List.set_cons_succ, List.set_cons_zero, free_suc, free_opt, free_optM, free_im, free_mu, free_no, and_self], ?_⟩
  | refine ⟨_, put_at (by simp only [List.set_cons_succ, List.set_cons_zero, free_suc, free_opt, free_optM, free_im, free_mu, free_no, and_self]), ?_⟩
  | refine ⟨_, gtup2 (by simp only [List.set_cons_succ, List.set_cons_zero, free_suc, free_opt, free_optM, free_im, free_mu, free_no, and_self]) (by simp only [List.set_cons_succ, List.set_cons_zero, free_suc, free_opt, free_optM, free_im, free_mu, free_no, and_self]), ?_⟩
  | with_reducible exact rfl)
local macro_rules | `(tactic| walk_at "ev0") => `(tactic| simp only [argsG, List.map_cons, List.map_nil, List.length_cons, List.length_nil, Nat.reduceAdd, Nat.reduceSub, List.replicate_succ, List.replicate_zero, List.cons_append, List.nil_append, List.set_cons_succ, List.set_cons_zero])
end N7
set_option Elab.async false
set_option linter.all false
set_option maxRecDepth 100000
set_option maxHeartbeats 4000000
namespace N7
open PySem PySem.Spec PyProof.Rows L2 TL
local macro_rules | `(tactic| walk_at "ev1") => `(tactic| first
  | with_reducible refine ws_seq.mpr ?_
  | with_reducible refine ws_next.mpr ?_
  | with_reducible refine ws_set ?_
  | with_reducible refine ws_setMu ?_
  | with_reducible refine ws_expr ?_
  | with_reducible refine ws_ret ?_
  | ((with_reducible refine ws_retMu ?_); refine ⟨_, rfl, ?_⟩)
  | with_reducible refine ws_if ?_
  | with_reducible refine ws_setIx ?_
  | with_reducible refine ws_asg ?_
  | with_reducible refine ws_for ?_
  | ((with_reducible refine ws_demote ?_); refine ⟨_, rfl, ?_⟩)
  | ((with_reducible refine we_var.mpr ?_); refine ⟨_, rfl, ?_⟩)
  | with_reducible refine we_c.mpr ?_
  | with_reducible refine we_bin.mpr ?_
  | with_reducible refine we_un.mpr ?_
  | with_reducible refine we_bool' ?_
  | with_reducible refine we_andT.mpr ?_
  | with_reducible refine we_orT.mpr ?_
  | with_reducible refine we_notT.mpr ?_
  | with_reducible refine we_andV.mpr ?_
  | with_reducible refine we_orV.mpr ?_
  | with_reducible refine we_notV.mpr ?_
  | with_reducible refine we_if.mpr ?_
  | with_reducible refine we_lst.mpr ?_
  | with_reducible refine we_tup.mpr ?_
  | with_reducible refine we_B.mpr ?_
  | with_reducible refine we_M.mpr ?_
  | with_reducible refine we_call.mpr ?_
  | ((with_reducible refine we_callIo.mpr ?_); refine ⟨⟨_, rfl⟩, ?_⟩)
  | ((with_reducible refine we_frz.mpr ?_); refine ⟨_, rfl, ?_⟩)
  | ((with_reducible refine we_rd.mpr ?_); refine ⟨⟨_, rfl⟩, ?_⟩)
  | ((with_reducible refine we_rd1.mpr ?_); refine ⟨_, rfl, ?_⟩)
  | ((with_reducible refine we_mut.mpr ?_); refine ⟨⟨_, rfl, rfl⟩, ?_⟩)
  | with_reducible refine we_chain.mpr ?_
  | with_reducible refine we_comp ?_
  | with_reducible refine we_sl ?_
  | with_reducible refine wpo_none ?_
  | with_reducible refine wpo_some ?_
  | with_reducible refine wa_nil.mpr ?_
  | with_reducible refine wa_cons.mpr ?_
  | with_reducible refine wa_items.mpr ?_
  | with_reducible refine wa_of' ?_
  | with_reducible refine wt_bl.mpr ?_
  | with_reducible refine wo_eqI ?_
  | with_reducible refine wo_neI ?_
  | with_reducible refine wo_eqB ?_
  | with_reducible refine wo_neB ?_
  | (with_reducible refine wo_fdiv (by omega) ?_)
  | (with_reducible refine wo_mod (by omega) ?_)
  | ((with_reducible refine wo_mul ?_ ?_); (focus first | (left; omega) | (right; omega)))
  | (refine wo_mk (n := _) (z := _) rfl ?_)
  | with_reducible refine ite_t rfl ?_
  | with_reducible refine ite_f (by decide) ?_
  | refine ⟨_, rfl, ?_⟩
  | refine ⟨rfl, ?_⟩
  | refine ⟨⟨rfl, rfl⟩, ?_⟩
  | refine ⟨⟨_, rfl⟩, ?_⟩
  | refine ⟨by decide, ?_⟩
  | refine ⟨by simp only [List.length_cons, List.length_nil]; decide, ?_⟩
  | refine ⟨by simp only [List.set_cons_succ, List.set_cons_zero, free_suc, free_opt, free_optM, free_im, free_mu, free_no, and_self], ?_⟩
  | refine ⟨_, put_at (by simp only [List.set_cons_succ, List.set_cons_zero, free_suc, free_opt, free_optM, free_im, free_mu, free_no, and_self]), ?_⟩
  | refine ⟨_, gtup2 (by simp only [List.set_cons_succ, List.set_cons_zero, free_suc, free_opt, free_optM, free_im, free_mu, free_no, and_self]) (by simp only [List.set_cons_succ, List.set_cons_zero, free_suc, free_opt, free_optM, free_im, free_mu, free_no, and_self]), ?_⟩
  | with_reducible exact rfl)
local macro_rules | `(tactic| walk_at "ev0") => `(tactic| simp only [argsG, List.map_cons, List.map_nil, List.length_cons, List.length_nil, Nat.reduceAdd, Nat.reduceSub, List.replicate_succ, List.replicate_zero, List.cons_append, List.nil_append, List.set_cons_succ, List.set_cons_zero])
local macro_rules | `(tactic| walk_at "ev2") => `(tactic| first
  | with_reducible refine ws_par ?_
  | with_reducible refine we_disp ?_
  | with_reducible refine we_dnew ?_
  | with_reducible refine wa_pairs0 ?_
  | with_reducible refine wa_pairs1 ?_
  | with_reducible refine wo_ixTab0 (by omega) ?_
  | with_reducible refine wo_lenTxt (by omega) ?_
  | with_reducible refine wo_lenTab ?_
  | refine ⟨_, _, rfl, ?_⟩
  | walk_at "ev1")
def okN (n : Nat) (s : Str) : Prop := s.length ≤ n ∧ ∀ c ∈ s.cps.toList, c < 1114112 ∧ c ≠ 37
theorem okN.mono {n m : Nat} {s : Str} (h : okN n s) (hm : n ≤ m) : okN m s := ⟨Nat.le_trans h.1 hm, h.2⟩
theorem okN.s {n : Nat} {s : Str} (h : okN n s) (hm : n ≤ 300) : okS s := ⟨Nat.le_trans h.1 hm, h.2⟩
end N7
set_option Elab.async false
set_option linter.all false
set_option maxRecDepth 100000
set_option maxHeartbeats 4000000
namespace N7
open PySem PySem.Spec PyProof.Rows L2 TL
local macro_rules | `(tactic| walk_at "ev1") => `(tactic| first
  | with_reducible refine ws_seq.mpr ?_
  | with_reducible refine ws_next.mpr ?_
  | with_reducible refine ws_set ?_
  | with_reducible refine ws_setMu ?_
  | with_reducible refine ws_expr ?_
  | with_reducible refine ws_ret ?_
  | ((with_reducible refine ws_retMu ?_); refine ⟨_, rfl, ?_⟩)
  | with_reducible refine ws_if ?_
  | with_reducible refine ws_setIx ?_
  | with_reducible refine ws_asg ?_
  | with_reducible refine ws_for ?_
  | ((with_reducible refine ws_demote ?_); refine ⟨_, rfl, ?_⟩)
  | ((with_reducible refine we_var.mpr ?_); refine ⟨_, rfl, ?_⟩)
  | with_reducible refine we_c.mpr ?_
  | with_reducible refine we_bin.mpr ?_
  | with_reducible refine we_un.mpr ?_
  | with_reducible refine we_bool' ?_
  | with_reducible refine we_andT.mpr ?_
  | with_reducible refine we_orT.mpr ?_
  | with_reducible refine we_notT.mpr ?_
  | with_reducible refine we_andV.mpr ?_
  | with_reducible refine we_orV.mpr ?_
  | with_reducible refine we_notV.mpr ?_
  | with_reducible refine we_if.mpr ?_
  | with_reducible refine we_lst.mpr ?_
  | with_reducible refine we_tup.mpr ?_
  | with_reducible refine we_B.mpr ?_
  | with_reducible refine we_M.mpr ?_
  | with_reducible refine we_call.mpr ?_
  | ((with_reducible refine we_callIo.mpr ?_); refine ⟨⟨_, rfl⟩, ?_⟩)
  | ((with_reducible refine we_frz.mpr ?_); refine ⟨_, rfl, ?_⟩)
  | ((with_reducible refine we_rd.mpr ?_); refine ⟨⟨_, rfl⟩, ?_⟩)
  | ((with_reducible refine we_rd1.mpr ?_); refine ⟨_, rfl, ?_⟩)
  | ((with_reducible refine we_mut.mpr ?_); refine ⟨⟨_, rfl, rfl⟩, ?_⟩)
  | with_reducible refine we_chain.mpr ?_
  | with_reducible refine we_comp ?_
  | with_reducible refine we_sl ?_
  | with_reducible refine wpo_none ?_
  | with_reducible refine wpo_some ?_
  | with_reducible refine wa_nil.mpr ?_
  | with_reducible refine wa_cons.mpr ?_
  | with_reducible refine wa_items.mpr ?_
  | with_reducible refine wa_of' ?_
  | with_reducible refine wt_bl.mpr ?_
  | with_reducible refine wo_eqI ?_
  | with_reducible refine wo_neI ?_
  | with_reducible refine wo_eqB ?_
  | with_reducible refine wo_neB ?_
  | (with_reducible refine wo_fdiv (by omega) ?_)
  | (with_reducible refine wo_mod (by omega) ?_)
  | ((with_reducible refine wo_mul ?_ ?_); (focus first | (left; omega) | (right; omega)))
  | (refine wo_mk (n := _) (z := _) rfl ?_)
  | with_reducible refine ite_t rfl ?_
  | with_reducible refine ite_f (by decide) ?_
  | refine ⟨_, rfl, ?_⟩
  | refine ⟨rfl, ?_⟩
  | refine ⟨⟨rfl, rfl⟩, ?_⟩
  | refine ⟨⟨_, rfl⟩, ?_⟩
  | refine ⟨by decide, ?_⟩
  | refine ⟨by simp only [List.length_cons, List.length_nil]; decide, ?_⟩
  | refine ⟨by simp only [List.set_cons_succ, List.set_cons_zero, free_suc, free_opt, free_optM, free_im, free_mu, free_no, and_self], ?_⟩
  | refine ⟨_, put_at (by simp only [List.set_cons_succ, List.set_cons_zero, free_suc, free_opt, free_optM, free_im, free_mu, free_no, and_self]), ?_⟩
  | refine ⟨_, gtup2 (by simp only [List.set_cons_succ, List.set_cons_zero, free_suc, free_opt, free_optM, free_im, free_mu, free_no, and_self]) (by simp only [List.set_cons_succ, List.set_cons_zero, free_suc, free_opt, free_optM, free_im, free_mu, free_no, and_self]), ?_⟩
  | with_reducible exact rfl)
local macro_rules | `(tactic| walk_at "ev0") => `(tactic| simp only [argsG, List.map_cons, List.map_nil, List.length_cons, List.length_nil, Nat.reduceAdd, Nat.reduceSub, List.replicate_succ, List.replicate_zero, List.cons_append, List.nil_append, List.set_cons_succ, List.set_cons_zero])
local macro_rules | `(tactic| walk_at "ev2") => `(tactic| first
  | with_reducible refine ws_par ?_
  | with_reducible refine we_disp ?_
  | with_reducible refine we_dnew ?_
  | with_reducible refine wa_pairs0 ?_
  | with_reducible refine wa_pairs1 ?_
  | with_reducible refine wo_ixTab0 (by omega) ?_
  | with_reducible refine wo_lenTxt (by omega) ?_
  | with_reducible refine wo_lenTab ?_
  | refine ⟨_, _, rfl, ?_⟩
  | walk_at "ev1")
theorem cut_all {ds : List D} {G : D → Prop} {lo hi : Option Int} (h : ∀ d ∈ ds, G d) : ∀ d ∈ cutL ds lo hi, G d := fun d hd => h d (by
  unfold cutL at hd
  exact List.mem_of_mem_drop (List.mem_of_mem_take hd))
section
variable {h w : Nat} {T : Nat → Nat → Nat}
end
end N7
set_option Elab.async false
set_option linter.all false
set_option maxRecDepth 100000
set_option maxHeartbeats 4000000
namespace TL
open PySem PySem.Spec PyProof.Rows L2
local macro_rules | `(tactic| walk_at "ev1") => `(tactic| first
  | with_reducible refine ws_seq.mpr ?_
  | with_reducible refine ws_next.mpr ?_
  | with_reducible refine ws_set ?_
  | with_reducible refine ws_setMu ?_
  | with_reducible refine ws_expr ?_
  | with_reducible refine ws_ret ?_
  | ((with_reducible refine ws_retMu ?_); refine ⟨_, rfl, ?_⟩)
  | with_reducible refine ws_if ?_
  | with_reducible refine ws_setIx ?_
  | with_reducible refine ws_asg ?_
  | with_reducible refine ws_for ?_
  | ((with_reducible refine ws_demote ?_); refine ⟨_, rfl, ?_⟩)
  | ((with_reducible refine we_var.mpr ?_); refine ⟨_, rfl, ?_⟩)
  | with_reducible refine we_c.mpr ?_
  | with_reducible refine we_bin.mpr ?_
  | with_reducible refine we_un.mpr ?_
  | with_reducible refine we_bool' ?_
  | with_reducible refine we_andT.mpr ?_
  | with_reducible refine we_orT.mpr ?_
  | with_reducible refine we_notT.mpr ?_
  | with_reducible refine we_andV.mpr ?_
  | with_reducible refine we_orV.mpr ?_
  | with_reducible refine we_notV.mpr ?_
  | with_reducible refine we_if.mpr ?_
  | with_reducible refine we_lst.mpr ?_
  | with_reducible refine we_tup.mpr ?_
  | with_reducible refine we_B.mpr ?_
  | with_reducible refine we_M.mpr ?_
  | with_reducible refine we_call.mpr ?_
  | ((with_reducible refine we_callIo.mpr ?_); refine ⟨⟨_, rfl⟩, ?_⟩)
  | ((with_reducible refine we_frz.mpr ?_); refine ⟨_, rfl, ?_⟩)
  | ((with_reducible refine we_rd.mpr ?_); refine ⟨⟨_, rfl⟩, ?_⟩)
  | ((with_reducible refine we_rd1.mpr ?_); refine ⟨_, rfl, ?_⟩)
  | ((with_reducible refine we_mut.mpr ?_); refine ⟨⟨_, rfl, rfl⟩, ?_⟩)
  | with_reducible refine we_chain.mpr ?_
  | with_reducible refine we_comp ?_
  | with_reducible refine we_sl ?_
  | with_reducible refine wpo_none ?_
  | with_reducible refine wpo_some ?_
  | with_reducible refine wa_nil.mpr ?_
  | with_reducible refine wa_cons.mpr ?_
  | with_reducible refine wa_items.mpr ?_
  | with_reducible refine wa_of' ?_
  | with_reducible refine wt_bl.mpr ?_
  | with_reducible refine wo_eqI ?_
  | with_reducible refine wo_neI ?_
  | with_reducible refine wo_eqB ?_
  | with_reducible refine wo_neB ?_
  | (with_reducible refine wo_fdiv (by omega) ?_)
  | (with_reducible refine wo_mod (by omega) ?_)
  | ((with_reducible refine wo_mul ?_ ?_); (focus first | (left; omega) | (right; omega)))
  | (refine wo_mk (n := _) (z := _) rfl ?_)
  | with_reducible refine ite_t rfl ?_
  | with_reducible refine ite_f (by decide) ?_
  | refine ⟨_, rfl, ?_⟩
  | refine ⟨rfl, ?_⟩
  | refine ⟨⟨rfl, rfl⟩, ?_⟩
  | refine ⟨⟨_, rfl⟩, ?_⟩
  | refine ⟨by decide, ?_⟩
  | refine ⟨by simp only [List.length_cons, List.length_nil]; decide, ?_⟩
  | refine ⟨by simp only [List.set_cons_succ, List.set_cons_zero, free_suc, free_opt, free_optM, free_im, free_mu, free_no, and_self], ?_⟩
  | refine ⟨_, put_at (by simp only [List.set_cons_succ, List.set_cons_zero, free_suc, free_opt, free_optM, free_im, free_mu, free_no, and_self]), ?_⟩
  | refine ⟨_, gtup2 (by simp only [List.set_cons_succ, List.set_cons_zero, free_suc, free_opt, free_optM, free_im, free_mu, free_no, and_self]) (by simp only [List.set_cons_succ, List.set_cons_zero, free_suc, free_opt, free_optM, free_im, free_mu, free_no, and_self]), ?_⟩
  | with_reducible exact rfl)
local macro_rules | `(tactic| walk_at "ev0") => `(tactic| simp only [argsG, List.map_cons, List.map_nil, List.length_cons, List.length_nil, Nat.reduceAdd, Nat.reduceSub, List.replicate_succ, List.replicate_zero, List.cons_append, List.nil_append, List.set_cons_succ, List.set_cons_zero])
local macro_rules | `(tactic| walk_at "ev2") => `(tactic| first
  | with_reducible refine ws_par ?_
  | with_reducible refine we_disp ?_
  | with_reducible refine we_dnew ?_
  | with_reducible refine wa_pairs0 ?_
  | with_reducible refine wa_pairs1 ?_
  | with_reducible refine wo_ixTab0 (by omega) ?_
  | with_reducible refine wo_lenTxt (by omega) ?_
  | with_reducible refine wo_lenTab ?_
  | refine ⟨_, _, rfl, ?_⟩
  | walk_at "ev1")
theorem wo_typ {d : D} {T : String} {P : Bool → D → Prop} (h : tyN d = some T) (p : P false (.ob (.ty T))) : WO (typD [d]) P := ⟨_, _, by unfold typD; simp only [h], p⟩
theorem wce_x {F : MS} {N : Nat} {ds : List D} {c : Str} {P : Bool → D → Prop} {E : Str → Prop} (h : WCX F N ds c) (e : E c) : WCE F N ds P E := .inr ⟨c, h, e⟩
end TL
set_option Elab.async false
set_option linter.all false
set_option maxRecDepth 100000
set_option maxHeartbeats 4000000
namespace N7
open PySem PySem.Spec PyProof.Rows L2 TL
local macro_rules | `(tactic| walk_at "ev1") => `(tactic| first
  | with_reducible refine ws_seq.mpr ?_
  | with_reducible refine ws_next.mpr ?_
  | with_reducible refine ws_set ?_
  | with_reducible refine ws_setMu ?_
  | with_reducible refine ws_expr ?_
  | with_reducible refine ws_ret ?_
  | ((with_reducible refine ws_retMu ?_); refine ⟨_, rfl, ?_⟩)
  | with_reducible refine ws_if ?_
  | with_reducible refine ws_setIx ?_
  | with_reducible refine ws_asg ?_
  | with_reducible refine ws_for ?_
  | ((with_reducible refine ws_demote ?_); refine ⟨_, rfl, ?_⟩)
  | ((with_reducible refine we_var.mpr ?_); refine ⟨_, rfl, ?_⟩)
  | with_reducible refine we_c.mpr ?_
  | with_reducible refine we_bin.mpr ?_
  | with_reducible refine we_un.mpr ?_
  | with_reducible refine we_bool' ?_
  | with_reducible refine we_andT.mpr ?_
  | with_reducible refine we_orT.mpr ?_
  | with_reducible refine we_notT.mpr ?_
  | with_reducible refine we_andV.mpr ?_
  | with_reducible refine we_orV.mpr ?_
  | with_reducible refine we_notV.mpr ?_
  | with_reducible refine we_if.mpr ?_
  | with_reducible refine we_lst.mpr ?_
  | with_reducible refine we_tup.mpr ?_
  | with_reducible refine we_B.mpr ?_
  | with_reducible refine we_M.mpr ?_
  | with_reducible refine we_call.mpr ?_
  | ((with_reducible refine we_callIo.mpr ?_); refine ⟨⟨_, rfl⟩, ?_⟩)
  | ((with_reducible refine we_frz.mpr ?_); refine ⟨_, rfl, ?_⟩)
  | ((with_reducible refine we_rd.mpr ?_); refine ⟨⟨_, rfl⟩, ?_⟩)
  | ((with_reducible refine we_rd1.mpr ?_); refine ⟨_, rfl, ?_⟩)
  | ((with_reducible refine we_mut.mpr ?_); refine ⟨⟨_, rfl, rfl⟩, ?_⟩)
  | with_reducible refine we_chain.mpr ?_
  | with_reducible refine we_comp ?_
  | with_reducible refine we_sl ?_
  | with_reducible refine wpo_none ?_
  | with_reducible refine wpo_some ?_
  | with_reducible refine wa_nil.mpr ?_
  | with_reducible refine wa_cons.mpr ?_
  | with_reducible refine wa_items.mpr ?_
  | with_reducible refine wa_of' ?_
  | with_reducible refine wt_bl.mpr ?_
  | with_reducible refine wo_eqI ?_
  | with_reducible refine wo_neI ?_
  | with_reducible refine wo_eqB ?_
  | with_reducible refine wo_neB ?_
  | (with_reducible refine wo_fdiv (by omega) ?_)
  | (with_reducible refine wo_mod (by omega) ?_)
  | ((with_reducible refine wo_mul ?_ ?_); (focus first | (left; omega) | (right; omega)))
  | (refine wo_mk (n := _) (z := _) rfl ?_)
  | with_reducible refine ite_t rfl ?_
  | with_reducible refine ite_f (by decide) ?_
  | refine ⟨_, rfl, ?_⟩
  | refine ⟨rfl, ?_⟩
  | refine ⟨⟨rfl, rfl⟩, ?_⟩
  | refine ⟨⟨_, rfl⟩, ?_⟩
  | refine ⟨by decide, ?_⟩
  | refine ⟨by simp only [List.length_cons, List.length_nil]; decide, ?_⟩
  | refine ⟨by simp only [List.set_cons_succ, List.set_cons_zero, free_suc, free_opt, free_optM, free_im, free_mu, free_no, and_self], ?_⟩
  | refine ⟨_, put_at (by simp only [List.set_cons_succ, List.set_cons_zero, free_suc, free_opt, free_optM, free_im, free_mu, free_no, and_self]), ?_⟩
  | refine ⟨_, gtup2 (by simp only [List.set_cons_succ, List.set_cons_zero, free_suc, free_opt, free_optM, free_im, free_mu, free_no, and_self]) (by simp only [List.set_cons_succ, List.set_cons_zero, free_suc, free_opt, free_optM, free_im, free_mu, free_no, and_self]), ?_⟩
  | with_reducible exact rfl)
local macro_rules | `(tactic| walk_at "ev0") => `(tactic| simp only [argsG, List.map_cons, List.map_nil, List.length_cons, List.length_nil, Nat.reduceAdd, Nat.reduceSub, List.replicate_succ, List.replicate_zero, List.cons_append, List.nil_append, List.set_cons_succ, List.set_cons_zero])
local macro_rules | `(tactic| walk_at "ev2") => `(tactic| first
  | with_reducible refine ws_par ?_
  | with_reducible refine we_disp ?_
  | with_reducible refine we_dnew ?_
  | with_reducible refine wa_pairs0 ?_
  | with_reducible refine wa_pairs1 ?_
  | with_reducible refine wo_ixTab0 (by omega) ?_
  | with_reducible refine wo_lenTxt (by omega) ?_
  | with_reducible refine wo_lenTab ?_
  | refine ⟨_, _, rfl, ?_⟩
  | walk_at "ev1")
/-- lists of lists of texts are the same as themselves -/
theorem eq_LL {xss : List (List Str)} (h : ∀ xs ∈ xss, okL xs) : eqB (.lst (xss.map lstS)) (.lst (xss.map lstS)) = some true := by
  have hpy : py (.lst (xss.map lstS)) = some (.list (xss.map fun xs => .list (xs.map .str))) := by simp only [py, pyL_lists]
  have hs := shaped_lists h
  rw [eqB_of2 hpy hpy hs hs, SeqAt.eqv_refl _ (SeqAt.canLay_of_shaped hs)]
end N7
set_option Elab.async false
set_option linter.all false
set_option maxRecDepth 100000
set_option maxHeartbeats 4000000
namespace N7
open PySem PySem.Spec PyProof.Rows L2 TL
local macro_rules | `(tactic| walk_at "ev1") => `(tactic| first
  | with_reducible refine ws_seq.mpr ?_
  | with_reducible refine ws_next.mpr ?_
  | with_reducible refine ws_set ?_
  | with_reducible refine ws_setMu ?_
  | with_reducible refine ws_expr ?_
  | with_reducible refine ws_ret ?_
  | ((with_reducible refine ws_retMu ?_); refine ⟨_, rfl, ?_⟩)
  | with_reducible refine ws_if ?_
  | with_reducible refine ws_setIx ?_
  | with_reducible refine ws_asg ?_
  | with_reducible refine ws_for ?_
  | ((with_reducible refine ws_demote ?_); refine ⟨_, rfl, ?_⟩)
  | ((with_reducible refine we_var.mpr ?_); refine ⟨_, rfl, ?_⟩)
  | with_reducible refine we_c.mpr ?_
  | with_reducible refine we_bin.mpr ?_
  | with_reducible refine we_un.mpr ?_
  | with_reducible refine we_bool' ?_
  | with_reducible refine we_andT.mpr ?_
  | with_reducible refine we_orT.mpr ?_
  | with_reducible refine we_notT.mpr ?_
  | with_reducible refine we_andV.mpr ?_
  | with_reducible refine we_orV.mpr ?_
  | with_reducible refine we_notV.mpr ?_
  | with_reducible refine we_if.mpr ?_
  | with_reducible refine we_lst.mpr ?_
  | with_reducible refine we_tup.mpr ?_
  | with_reducible refine we_B.mpr ?_
  | with_reducible refine we_M.mpr ?_
  | with_reducible refine we_call.mpr ?_
  | ((with_reducible refine we_callIo.mpr ?_); refine ⟨⟨_, rfl⟩, ?_⟩)
  | ((with_reducible refine we_frz.mpr ?_); refine ⟨_, rfl, ?_⟩)
  | ((with_reducible refine we_rd.mpr ?_); refine ⟨⟨_, rfl⟩, ?_⟩)
  | ((with_reducible refine we_rd1.mpr ?_); refine ⟨_, rfl, ?_⟩)
  | ((with_reducible refine we_mut.mpr ?_); refine ⟨⟨_, rfl, rfl⟩, ?_⟩)
  | with_reducible refine we_chain.mpr ?_
  | with_reducible refine we_comp ?_
  | with_reducible refine we_sl ?_
  | with_reducible refine wpo_none ?_
  | with_reducible refine wpo_some ?_
  | with_reducible refine wa_nil.mpr ?_
  | with_reducible refine wa_cons.mpr ?_
  | with_reducible refine wa_items.mpr ?_
  | with_reducible refine wa_of' ?_
  | with_reducible refine wt_bl.mpr ?_
  | with_reducible refine wo_eqI ?_
  | with_reducible refine wo_neI ?_
  | with_reducible refine wo_eqB ?_
  | with_reducible refine wo_neB ?_
  | (with_reducible refine wo_fdiv (by omega) ?_)
  | (with_reducible refine wo_mod (by omega) ?_)
  | ((with_reducible refine wo_mul ?_ ?_); (focus first | (left; omega) | (right; omega)))
  | (refine wo_mk (n := _) (z := _) rfl ?_)
  | with_reducible refine ite_t rfl ?_
  | with_reducible refine ite_f (by decide) ?_
  | refine ⟨_, rfl, ?_⟩
  | refine ⟨rfl, ?_⟩
  | refine ⟨⟨rfl, rfl⟩, ?_⟩
  | refine ⟨⟨_, rfl⟩, ?_⟩
  | refine ⟨by decide, ?_⟩
  | refine ⟨by simp only [List.length_cons, List.length_nil]; decide, ?_⟩
  | refine ⟨by simp only [List.set_cons_succ, List.set_cons_zero, free_suc, free_opt, free_optM, free_im, free_mu, free_no, and_self], ?_⟩
  | refine ⟨_, put_at (by simp only [List.set_cons_succ, List.set_cons_zero, free_suc, free_opt, free_optM, free_im, free_mu, free_no, and_self]), ?_⟩
  | refine ⟨_, gtup2 (by simp only [List.set_cons_succ, List.set_cons_zero, free_suc, free_opt, free_optM, free_im, free_mu, free_no, and_self]) (by simp only [List.set_cons_succ, List.set_cons_zero, free_suc, free_opt, free_optM, free_im, free_mu, free_no, and_self]), ?_⟩
  | with_reducible exact rfl)
local macro_rules | `(tactic| walk_at "ev0") => `(tactic| simp only [argsG, List.map_cons, List.map_nil, List.length_cons, List.length_nil, Nat.reduceAdd, Nat.reduceSub, List.replicate_succ, List.replicate_zero, List.cons_append, List.nil_append, List.set_cons_succ, List.set_cons_zero])
local macro_rules | `(tactic| walk_at "ev2") => `(tactic| first
  | with_reducible refine ws_par ?_
  | with_reducible refine we_disp ?_
  | with_reducible refine we_dnew ?_
  | with_reducible refine wa_pairs0 ?_
  | with_reducible refine wa_pairs1 ?_
  | with_reducible refine wo_ixTab0 (by omega) ?_
  | with_reducible refine wo_lenTxt (by omega) ?_
  | with_reducible refine wo_lenTab ?_
  | refine ⟨_, _, rfl, ?_⟩
  | walk_at "ev1")
end N7
set_option Elab.async false
set_option linter.all false
set_option maxRecDepth 100000
set_option maxHeartbeats 4000000
namespace N8
open PySem PySem.Spec PyProof.Rows L2 TL
local macro_rules | `(tactic| walk_at "ev1") => `(tactic| first
  | with_reducible refine ws_seq.mpr ?_
  | with_reducible refine ws_next.mpr ?_
  | with_reducible refine ws_set ?_
  | with_reducible refine ws_setMu ?_
  | with_reducible refine ws_expr ?_
  | with_reducible refine ws_ret ?_
  | ((with_reducible refine ws_retMu ?_); refine ⟨_, rfl, ?_⟩)
  | with_reducible refine ws_if ?_
  | with_reducible refine ws_setIx ?_
  | with_reducible refine ws_asg ?_
  | with_reducible refine ws_for ?_
  | ((with_reducible refine ws_demote ?_); refine ⟨_, rfl, ?_⟩)
  | ((with_reducible refine we_var.mpr ?_); refine ⟨_, rfl, ?_⟩)
  | with_reducible refine we_c.mpr ?_
  | with_reducible refine we_bin.mpr ?_
  | with_reducible refine we_un.mpr ?_
  | with_reducible refine we_bool' ?_
  | with_reducible refine we_andT.mpr ?_
  | with_reducible refine we_orT.mpr ?_
  | with_reducible refine we_notT.mpr ?_
  | with_reducible refine we_andV.mpr ?_
  | with_reducible refine we_orV.mpr ?_
  | with_reducible refine we_notV.mpr ?_
  | with_reducible refine we_if.mpr ?_
  | with_reducible refine we_lst.mpr ?_
  | with_reducible refine we_tup.mpr ?_
  | with_reducible refine we_B.mpr ?_
  | with_reducible refine we_M.mpr ?_
  | with_reducible refine we_call.mpr ?_
  | ((with_reducible refine we_callIo.mpr ?_); refine ⟨⟨_, rfl⟩, ?_⟩)
  | ((with_reducible refine we_frz.mpr ?_); refine ⟨_, rfl, ?_⟩)
  | ((with_reducible refine we_rd.mpr ?_); refine ⟨⟨_, rfl⟩, ?_⟩)
  | ((with_reducible refine we_rd1.mpr ?_); refine ⟨_, rfl, ?_⟩)
  | ((with_reducible refine we_mut.mpr ?_); refine ⟨⟨_, rfl, rfl⟩, ?_⟩)
  | with_reducible refine we_chain.mpr ?_
  | with_reducible refine we_comp ?_
  | with_reducible refine we_sl ?_
  | with_reducible refine wpo_none ?_
  | with_reducible refine wpo_some ?_
  | with_reducible refine wa_nil.mpr ?_
  | with_reducible refine wa_cons.mpr ?_
  | with_reducible refine wa_items.mpr ?_
  | with_reducible refine wa_of' ?_
  | with_reducible refine wt_bl.mpr ?_
  | with_reducible refine wo_eqI ?_
  | with_reducible refine wo_neI ?_
  | with_reducible refine wo_eqB ?_
  | with_reducible refine wo_neB ?_
  | (with_reducible refine wo_fdiv (by omega) ?_)
  | (with_reducible refine wo_mod (by omega) ?_)
  | ((with_reducible refine wo_mul ?_ ?_); (focus first | (left; omega) | (right; omega)))
  | (refine wo_mk (n := _) (z := _) rfl ?_)
  | with_reducible refine ite_t rfl ?_
  | with_reducible refine ite_f (by decide) ?_
  | refine ⟨_, rfl, ?_⟩
  | refine ⟨rfl, ?_⟩
  | refine ⟨⟨rfl, rfl⟩, ?_⟩
  | refine ⟨⟨_, rfl⟩, ?_⟩
  | refine ⟨by decide, ?_⟩
  | refine ⟨by simp only [List.length_cons, List.length_nil]; decide, ?_⟩
  | refine ⟨by simp only [List.set_cons_succ, List.set_cons_zero, free_suc, free_opt, free_optM, free_im, free_mu, free_no, and_self], ?_⟩
  | refine ⟨_, put_at (by simp only [List.set_cons_succ, List.set_cons_zero, free_suc, free_opt, free_optM, free_im, free_mu, free_no, and_self]), ?_⟩
  | refine ⟨_, gtup2 (by simp only [List.set_cons_succ, List.set_cons_zero, free_suc, free_opt, free_optM, free_im, free_mu, free_no, and_self]) (by simp only [List.set_cons_succ, List.set_cons_zero, free_suc, free_opt, free_optM, free_im, free_mu, free_no, and_self]), ?_⟩
  | with_reducible exact rfl)
local macro_rules | `(tactic| walk_at "ev0") => `(tactic| simp only [argsG, List.map_cons, List.map_nil, List.length_cons, List.length_nil, Nat.reduceAdd, Nat.reduceSub, List.replicate_succ, List.replicate_zero, List.cons_append, List.nil_append, List.set_cons_succ, List.set_cons_zero])
local macro_rules | `(tactic| walk_at "ev2") => `(tactic| first
  | with_reducible refine ws_par ?_
  | with_reducible refine we_disp ?_
  | with_reducible refine we_dnew ?_
  | with_reducible refine wa_pairs0 ?_
  | with_reducible refine wa_pairs1 ?_
  | with_reducible refine wo_ixTab0 (by omega) ?_
  | with_reducible refine wo_lenTxt (by omega) ?_
  | with_reducible refine wo_lenTab ?_
  | refine ⟨_, _, rfl, ?_⟩
  | walk_at "ev1")
def okTh (W K : Nat) (d : D) : Prop := ∃ p, pyR d = some p ∧ p.showable = true ∧ p.leavesShort 13 = true ∧ p.weight ≤ W ∧ p.depth ≤ K
theorem okTh.mono {W K W' K' : Nat} {d : D} (h : okTh W K d) (hw : W ≤ W') (hk : K ≤ K') : okTh W' K' d := by
  obtain ⟨p, h1, h2, h3, h4, h5⟩ := h
  exact ⟨p, h1, h2, h3, by omega, by omega⟩
def okS (s : Str) : Prop := s.length ≤ 300 ∧ ∀ c ∈ s.cps.toList, c < 1114112 ∧ c ≠ 2000000
theorem okS.ok {s : Str} (h : okS s) : PyData.strOk s = true := by
  unfold PyData.strOk
  first
  | exact List.all_eq_true.mpr fun c hc => decide_eq_true (h.2 c hc).1
  | (rw [Array.all_eq_true']; intro c hc; exact decide_eq_true (h.2 c (by simpa using hc)).1)
theorem th_non : okTh 0 0 .non := ⟨.none, rfl, by rw [PyData.showable], by rw [PyData.leavesShort], by rw [PyData.weight]; exact Nat.le_refl _, by rw [PyData.depth]; exact Nat.le_refl _⟩
theorem th_int {i : Int} (h : i.natAbs < 10 ^ 12) : okTh 40 0 (.int i) := by
  have h40 : i.natAbs < 2 ^ 40 := Nat.lt_of_lt_of_le h (by decide)
  refine ⟨.int i, rfl, ?_, ?_, ?_, by rw [PyData.depth]; exact Nat.le_refl _⟩
  · rw [PyData.showable, decide_eq_true_eq]
    by_cases e : i.natAbs = 0
    · rw [e]; decide
    · have := (Nat.log2_lt e).mpr h40
      omega
  · rw [PyData.leavesShort]
    exact decide_eq_true (PyData.shown_int_le h)
  · rw [PyData.weight]
    split
    · exact Nat.zero_le _
    · by_cases e : i.natAbs = 0
      · rw [e]; decide
      · have := (Nat.log2_lt e).mpr h40
        omega
theorem th_all {W K : Nat} : ∀ {ds : List D}, (∀ e ∈ ds, okTh W K e) → ∃ ps, pyRL ds = some ps ∧ PyData.showableAll ps = true ∧ PyData.leavesShortAll 13 ps = true ∧ PyData.weightAll ps ≤ ds.length * (W + 1) ∧ PyData.depthAll ps ≤ K
  | [], _ => ⟨[], rfl, by rw [PyData.showableAll], by rw [PyData.leavesShortAll], by rw [PyData.weightAll]; exact Nat.zero_le _, by rw [PyData.depthAll]; exact Nat.zero_le _⟩
  | d :: ds, h => by
    obtain ⟨p, h1, h2, h3, h4, h5⟩ := h d (List.mem_cons_self ..)
    obtain ⟨ps, g1, g2, g3, g4, g5⟩ := th_all fun e he => h e (List.mem_cons_of_mem _ he)
    refine ⟨p :: ps, by unfold pyRL; rw [h1, g1], by rw [PyData.showableAll, h2, g2]; rfl, by rw [PyData.leavesShortAll, h3, g3]; rfl, ?_, ?_⟩
    · rw [PyData.weightAll, List.length_cons, Nat.succ_mul]
      omega
    · rw [PyData.depthAll]
      omega
theorem th_lst {W K : Nat} {ds : List D} (h : ∀ e ∈ ds, okTh W K e) : okTh (ds.length * (W + 1)) (K + 1) (.lst ds) := by
  obtain ⟨ps, g1, g2, g3, g4, g5⟩ := th_all h
  exact ⟨.list ps, by unfold pyR; rw [g1]; rfl, by rw [PyData.showable]; exact g2, by rw [PyData.leavesShort]; exact g3, by rw [PyData.weight]; exact g4, by rw [PyData.depth]; omega⟩
theorem th_tup {W K : Nat} {ds : List D} (h : ∀ e ∈ ds, okTh W K e) : okTh (ds.length * (W + 1)) (K + 1) (.tup ds) := by
  obtain ⟨ps, g1, g2, g3, g4, g5⟩ := th_all h
  exact ⟨.tuple ps, by unfold pyR; rw [g1]; rfl, by rw [PyData.showable]; exact g2, by rw [PyData.leavesShort]; exact g3, by rw [PyData.weight]; exact g4, by rw [PyData.depth]; omega⟩
/-- what can be shown is shown -/
theorem th_repr {W K : Nat} {d : D} (h : okTh W K d) (hro : isRo d = false) (hw : W ≤ 1048576) (hk : K ≤ 60) : ∃ s, ∀ {P : Bool → D → Prop}, P false (.str s) → WO (reprA [d]) P := by
  obtain ⟨p, h1, h2, h3, h4, h5⟩ := h
  refine ⟨p.shown, fun k => wo_repr h1 hro ?_ k⟩
  unfold reprOkA
  rw [h2, Bool.true_and, Bool.and_eq_true, decide_eq_true_eq, decide_eq_true_eq]
  exact ⟨PyData.shown_fits (B := 13) (by decide) (by decide) h3 (Nat.le_trans h4 (Nat.le_trans hw (by decide))), by omega⟩
def isData : D → Bool
  | .ro _ => false
  | .ob _ => false
  | .exc _ => false
  | .cls _ => false
  | .dit _ => false
  | _ => true
def rowOk : D → Prop
  | .str s => okS s
  | d => isData d = true
def thing : D → Prop
  | .lst ds => ds.length ≤ 1000 ∧ ∀ e ∈ ds, rowOk e
  | d => isData d = true
def signB (c : Nat) : Bool := decide (33 ≤ c ∧ c ≤ 126)
theorem bls_map {α : Type} (f : α → Bool) : ∀ xs : List α, blsD (xs.map fun x => .bl (f x)) = some (xs.map f)
  | [] => rfl
  | x :: xs => by rw [List.map_cons, List.map_cons, blsD, bls_map f xs]
theorem wo_all {α : Type} {f : α → Bool} {xs : List α} {P : Bool → D → Prop} (k : P false (.bl (xs.all f))) : WO (allD [.lst (xs.map fun x => .bl (f x))]) P := by
  refine ⟨_, _, ?_, k⟩
  unfold allD
  simp only [bls_map]
  rw [List.all_map]
  rfl
theorem lo_dec {c : Nat} : strLt (sg c) "!" = decide (c < 33) := by
  by_cases h : c < 33
  · rw [decide_eq_true h]
    exact decide_eq_true (show [c] < [33] from List.Lex.rel h)
  · rw [decide_eq_false h]
    exact lt_lo (by omega)
theorem hi_dec {c : Nat} : strLt "~" (sg c) = decide (126 < c) := by
  by_cases h : 126 < c
  · rw [decide_eq_true h]
    exact decide_eq_true (show [126] < [c] from List.Lex.rel h)
  · rw [decide_eq_false h]
    exact lt_hi (by omega)
theorem signs_ok {s : Str} (hs : okS s) : WC Sp.m__has_signs_only 2 [.str s] fun n d => n = false ∧ d = .bl (s.cps.toList.all signB) := by
  refine wc_of ?_
  unfold Sp.m__has_signs_only
  repeat (walk_at "ev1")
  refine comp_mapL (xs := s.cps.toList) (F := fun c => .str (sg c)) (F' := fun c => .bl (signB c)) rfl (show 1 < 2 by decide) (by have := hs.1; unfold sizeLine; show s.cps.toList.length ≤ _; rw [Array.length_toList]; show s.length ≤ _; omega) (fun c hc => ?_) ?_
  · repeat (walk_at "ev1")
    rw [lo_dec]
    by_cases h1 : c < 33
    · rw [decide_eq_true h1]
      repeat (walk_at "ev1")
      rw [show signB c = false from decide_eq_false (by omega)]
      exact ⟨rfl, rfl⟩
    · rw [decide_eq_false h1]
      repeat (walk_at "ev1")
      rw [hi_dec]
      by_cases h2 : 126 < c
      · rw [decide_eq_true h2, show signB c = false from decide_eq_false (by omega)]
        exact ⟨rfl, rfl⟩
      · rw [decide_eq_false h2, show signB c = true from decide_eq_true (by omega)]
        exact ⟨rfl, rfl⟩
  · repeat (walk_at "ev1")
    refine wo_all ?_
    repeat (walk_at "ev1")
def okN (n : Nat) (s : Str) : Prop := s.length ≤ n ∧ ∀ c ∈ s.cps.toList, c < 1114112 ∧ c ≠ 2000000
theorem okN.mono {n m : Nat} {s : Str} (h : okN n s) (hm : n ≤ m) : okN m s := ⟨Nat.le_trans h.1 hm, h.2⟩
theorem okN.s {n : Nat} {s : Str} (h : okN n s) (hm : n ≤ 300) : okS s := ⟨Nat.le_trans h.1 hm, h.2⟩
theorem cut_all {ds : List D} {G : D → Prop} {lo hi : Option Int} (h : ∀ d ∈ ds, G d) : ∀ d ∈ cutL ds lo hi, G d := fun d hd => h d (by
  unfold cutL at hd
  exact List.mem_of_mem_drop (List.mem_of_mem_take hd))
section
variable {h w : Nat} {T : Nat → Nat → Nat}
end
end N8
set_option Elab.async false
set_option linter.all false
set_option maxRecDepth 100000
set_option maxHeartbeats 4000000
namespace K26
open PySem PySem.Spec PyProof.Rows PySem.W L2 TL N7
local macro_rules | `(tactic| walk_at "ev1") => `(tactic| first
  | with_reducible refine ws_seq.mpr ?_
  | with_reducible refine ws_next.mpr ?_
  | with_reducible refine ws_set ?_
  | with_reducible refine ws_setMu ?_
  | with_reducible refine ws_expr ?_
  | with_reducible refine ws_ret ?_
  | ((with_reducible refine ws_retMu ?_); refine ⟨_, rfl, ?_⟩)
  | with_reducible refine ws_if ?_
  | with_reducible refine ws_setIx ?_
  | with_reducible refine ws_asg ?_
  | with_reducible refine ws_for ?_
  | ((with_reducible refine ws_demote ?_); refine ⟨_, rfl, ?_⟩)
  | ((with_reducible refine we_var.mpr ?_); refine ⟨_, rfl, ?_⟩)
  | with_reducible refine we_c.mpr ?_
  | with_reducible refine we_bin.mpr ?_
  | with_reducible refine we_un.mpr ?_
  | with_reducible refine we_bool' ?_
  | with_reducible refine we_andT.mpr ?_
  | with_reducible refine we_orT.mpr ?_
  | with_reducible refine we_notT.mpr ?_
  | with_reducible refine we_andV.mpr ?_
  | with_reducible refine we_orV.mpr ?_
  | with_reducible refine we_notV.mpr ?_
  | with_reducible refine we_if.mpr ?_
  | with_reducible refine we_lst.mpr ?_
  | with_reducible refine we_tup.mpr ?_
  | with_reducible refine we_B.mpr ?_
  | with_reducible refine we_M.mpr ?_
  | with_reducible refine we_call.mpr ?_
  | ((with_reducible refine we_callIo.mpr ?_); refine ⟨⟨_, rfl⟩, ?_⟩)
  | ((with_reducible refine we_frz.mpr ?_); refine ⟨_, rfl, ?_⟩)
  | ((with_reducible refine we_rd.mpr ?_); refine ⟨⟨_, rfl⟩, ?_⟩)
  | ((with_reducible refine we_rd1.mpr ?_); refine ⟨_, rfl, ?_⟩)
  | ((with_reducible refine we_mut.mpr ?_); refine ⟨⟨_, rfl, rfl⟩, ?_⟩)
  | with_reducible refine we_chain.mpr ?_
  | with_reducible refine we_comp ?_
  | with_reducible refine we_sl ?_
  | with_reducible refine wpo_none ?_
  | with_reducible refine wpo_some ?_
  | with_reducible refine wa_nil.mpr ?_
  | with_reducible refine wa_cons.mpr ?_
  | with_reducible refine wa_items.mpr ?_
  | with_reducible refine wa_of' ?_
  | with_reducible refine wt_bl.mpr ?_
  | with_reducible refine wo_eqI ?_
  | with_reducible refine wo_neI ?_
  | with_reducible refine wo_eqB ?_
  | with_reducible refine wo_neB ?_
  | (with_reducible refine wo_fdiv (by omega) ?_)
  | (with_reducible refine wo_mod (by omega) ?_)
  | ((with_reducible refine wo_mul ?_ ?_); (focus first | (left; omega) | (right; omega)))
  | (refine wo_mk (n := _) (z := _) rfl ?_)
  | with_reducible refine ite_t rfl ?_
  | with_reducible refine ite_f (by decide) ?_
  | refine ⟨_, rfl, ?_⟩
  | refine ⟨rfl, ?_⟩
  | refine ⟨⟨rfl, rfl⟩, ?_⟩
  | refine ⟨⟨_, rfl⟩, ?_⟩
  | refine ⟨by decide, ?_⟩
  | refine ⟨by simp only [List.length_cons, List.length_nil]; decide, ?_⟩
  | refine ⟨by simp only [List.set_cons_succ, List.set_cons_zero, free_suc, free_opt, free_optM, free_im, free_mu, free_no, and_self], ?_⟩
  | refine ⟨_, put_at (by simp only [List.set_cons_succ, List.set_cons_zero, free_suc, free_opt, free_optM, free_im, free_mu, free_no, and_self]), ?_⟩
  | refine ⟨_, gtup2 (by simp only [List.set_cons_succ, List.set_cons_zero, free_suc, free_opt, free_optM, free_im, free_mu, free_no, and_self]) (by simp only [List.set_cons_succ, List.set_cons_zero, free_suc, free_opt, free_optM, free_im, free_mu, free_no, and_self]), ?_⟩
  | with_reducible exact rfl)
local macro_rules | `(tactic| walk_at "ev0") => `(tactic| simp only [argsG, List.map_cons, List.map_nil, List.length_cons, List.length_nil, Nat.reduceAdd, Nat.reduceSub, List.replicate_succ, List.replicate_zero, List.cons_append, List.nil_append, List.set_cons_succ, List.set_cons_zero])
local macro_rules | `(tactic| walk_at "ev2") => `(tactic| first
  | with_reducible refine ws_par ?_
  | with_reducible refine we_disp ?_
  | with_reducible refine we_dnew ?_
  | with_reducible refine wa_pairs0 ?_
  | with_reducible refine wa_pairs1 ?_
  | with_reducible refine wo_ixTab0 (by omega) ?_
  | with_reducible refine wo_lenTxt (by omega) ?_
  | with_reducible refine wo_lenTab ?_
  | refine ⟨_, _, rfl, ?_⟩
  | walk_at "ev1")
theorem minOk_ints (xs : List Int) : minOk (xs.map .int) = true := by
  unfold minOk alikeB
  rw [Bool.and_eq_true, Bool.and_eq_true, decide_eq_true_eq]
  refine ⟨?_, ?_, Nat.le_trans (depth_maps (g := PyData.int) (n := 0) (fun x => by rw [PyData.depth]; exact Nat.le_refl _) xs) (by omega)⟩
  · refine List.all_eq_true.mpr fun x hx => List.all_eq_true.mpr fun y hy => ?_
    obtain ⟨p, _, rfl⟩ := List.mem_map.mp hx
    obtain ⟨q, _, rfl⟩ := List.mem_map.mp hy
    rw [alike]
  · refine List.all_eq_true.mpr fun x hx => ?_
    obtain ⟨p, _, rfl⟩ := List.mem_map.mp hx
    rfl

theorem min_num {α : Type} {ps : List α} (num : α → Nat) (h : ps ≠ []) : ∃ M : Nat, minG [.lst (ps.map fun p => .int (num p))] = some (false, .int M) := by
  cases ps with
  | nil => exact absurd rfl h
  | cons p ps =>
    have e : pyLS ((p :: ps).map fun p => D.int (num p)) = some (.int (num p) :: ps.map fun p => PyData.int (num p)) := pyLS_maps (f := fun p => D.int (num p)) (g := fun p => PyData.int (num p)) (fun x => rfl) (p :: ps)
    have ok : minOk (PyData.int (num p) :: ps.map fun p => PyData.int (num p)) = true := by
      have := minOk_ints ((p :: ps).map fun p => (num p : Int))
      rw [List.map_map, List.map_cons] at this
      exact this
    have hm : minD (PyData.int (num p)) (ps.map fun p => PyData.int (num p)) ∈ (p :: ps).map fun p => PyData.int (num p) := minD_mem _ _
    obtain ⟨q, hq, e2⟩ := List.mem_map.mp hm
    refine ⟨num q, ?_⟩
    simp only [minG]
    rw [e]
    simp only
    rw [if_pos ok, ← e2]
    rfl
section
variable {h w : Nat} {P : Nat → Nat → Bool}
theorem cells_filter {f : Nat × Nat → Bool} : (cellsL h w P).filter f = cellsL h w fun i j => P i j && f (i, j) := by
  induction h with
  | zero => rfl
  | succ n ih =>
    rw [cellsL_succ, cellsL_succ, List.filter_append, ih, List.filter_map, List.filter_filter]
    congr 2
    apply List.filter_congr
    intro b _
    exact Bool.and_comm _ _
end
def sgB (L : Nat → Nat → Nat) : Nat → Nat → Bool := fun r c => decide (L r c ≠ 63)
def unB (T L : Nat → Nat → Nat) (i j : Nat) : Nat → Nat → Bool := fun r c => decide (L r c ≠ 63) && decide (T (i + r) (j + c) ≠ L r c)
def num (h' w' : Nat) (T L : Nat → Nat → Nat) (p : Nat × Nat) : Nat := (cellsL h' w' (unB T L p.1 p.2)).length
section
variable {h w h' w' : Nat} {T L : Nat → Nat → Nat}
theorem signs_exact (h9 : h' < 1000) (w9 : w' < 1000) (hL : SgT h' w' L) : WC Sp.m_cells_of_signs 6 [lstS (tab h' w' L)] fun n d => d = .lst ((cellsL h' w' (sgB L)).map (celD L)) := by
  refine wc_of ?_
  unfold Sp.m_cells_of_signs
  repeat (walk_at "ev1")
  walk_at "ev0"
  refine wl_mk rfl ?_
  refine ws_items (fun k g => ∃ o2 o3 o4 o5, g = [.im (lstS (tab h' w' L)), .mu (.lst ((cellsL k w' (sgB L)).map (celD L))), opt o2, opt o3, opt o4, opt o5])
    ⟨none, none, none, none, rfl⟩ (fun k d g hk hv => ?_) fun g hv => ?_
  · obtain ⟨o2, o3, o4, o5, rfl⟩ := hv
    obtain ⟨x, hx, rfl⟩ := enumL_get _ _ _ _ hk
    obtain ⟨hk2, rfl⟩ := tabS_at hx
    rw [Nat.zero_add]
    have hhw : k * w' ≤ 999 * 999 := Nat.mul_le_mul (by omega) (by omega)
    have hlen : (cellsL k w' (sgB L)).length ≤ k * w' := cellsL_len
    repeat (walk_at "ev1")
    walk_at "ev0"
    refine wl_mk rfl ?_
    refine ws_items (fun j g => ∃ o4 o5, g = [.im (lstS (tab h' w' L)), .mu (.lst ((cellsL k w' (sgB L) ++ ((List.range j).filter (sgB L k)).map fun j => (k, j)).map (celD L))), .im (.int k), .im (.str (txt w' (L k))), opt o4, opt o5])
      ⟨o4, o5, by rw [show ((List.range 0).filter (sgB L k)).map (fun j => (k, j)) = [] from rfl, List.append_nil]⟩ (fun j d g hj hv => ?_) fun g hv => ?_
    · obtain ⟨o4, o5, rfl⟩ := hv
      obtain ⟨x, hx, rfl⟩ := enumL_get _ _ _ _ hj
      obtain ⟨hj2, rfl⟩ := signs_get hx
      rw [Nat.zero_add]
      have hs := hL k j hk2 hj2
      have hl2 : ((List.range j).filter (sgB L k)).length ≤ j := by
        have := List.length_filter_le (sgB L k) (List.range j)
        rw [List.length_range] at this
        exact this
      repeat (walk_at "ev1")
      refine wo_neS (sg_ok (by omega)) (by decide +kernel) ?_
      rw [show Str.ofString "?" = sg 63 from rfl]
      by_cases e : L k j = 63
      · rw [decide_eq_true (sg_inj.mpr e)]
        repeat (walk_at "ev1")
        rw [show (List.range (j + 1)).filter (sgB L k) = (List.range j).filter (sgB L k) by
          rw [List.range_succ, List.filter_append, List.filter_cons_of_neg (by show ¬ decide (L k j ≠ 63) = true; rw [decide_eq_true_eq]; exact fun z => z e), List.filter_nil, List.append_nil]]
        exact ⟨some _, some _, rfl⟩
      · rw [decide_eq_false fun z => e (sg_inj.mp z)]
        repeat (walk_at "ev1")
        refine ⟨_, _, app_at (by rw [List.length_map, List.length_append, List.length_map]; unfold sizeLine; omega), ?_⟩
        rw [show ((cellsL k w' (sgB L) ++ ((List.range j).filter (sgB L k)).map fun j => (k, j)).map (celD L)) ++ [.tup [.int k, .int j, .str (sg (L k j))]] = (cellsL k w' (sgB L) ++ ((List.range (j + 1)).filter (sgB L k)).map fun j => (k, j)).map (celD L) by
          rw [List.range_succ, List.filter_append, List.filter_cons_of_pos (by show decide (L k j ≠ 63) = true; exact decide_eq_true e), List.filter_nil]
          simp only [List.map_append, List.append_assoc]
          rfl]
        repeat (walk_at "ev1")
        exact ⟨some _, some _, rfl⟩
    · obtain ⟨o4, o5, rfl⟩ := hv
      repeat (walk_at "ev1")
      rw [enumL_len, signs_len, ← cellsL_succ]
      exact ⟨some _, some _, o4, o5, rfl⟩
  · obtain ⟨o2, o3, o4, o5, rfl⟩ := hv
    repeat (walk_at "ev1")
    rw [enumL_len, List.length_map, tab_len]
theorem unlike_ok {i j : Nat} (hi : i + h' ≤ h) (hj : j + w' ≤ w) (h9 : h < 100) (w9 : w < 100) (hT : SgT h w T) (hL : SgT h' w' L) : WC m__how_many_unlike 8 [lstS (tab h w T), .lst ((cellsL h' w' (sgB L)).map (celD L)), .tup [.int i, .int j]] fun n d => n = false ∧ d = .int (num h' w' T L (i, j)) := by
  have hhw : h' * w' ≤ 99 * 99 := Nat.mul_le_mul (by omega) (by omega)
  have hlen : (cellsL h' w' (sgB L)).length ≤ h' * w' := cellsL_len
  refine wc_of ?_
  unfold m__how_many_unlike
  repeat (walk_at "ev1")
  try (walk_at "ev0")
  refine comp_filterT (F := celD L) (F' := fun p => .str (sg (L p.1 p.2))) (Pt := fun p => decide (T (i + p.1) (j + p.2) ≠ L p.1 p.2)) (fun p => [.im (lstS (tab h w T)), .im (.lst ((cellsL h' w' (sgB L)).map (celD L))), .im (.tup [.int i, .int j]), .im (.int i), .im (.int j), .im (.int p.1), .im (.int p.2), .im (.str (sg (L p.1 p.2)))]) rfl (by unfold sizeLine; omega) (fun p _ => rfl) (fun p => rfl) (fun p => rfl) (fun p hp => ?_) (fun p hp _ => ?_) ?_
  · have hm := cells_mem hp
    have t1 := hT (i + p.1) (j + p.2) (by omega) (by omega)
    have t2 := hL p.1 p.2 hm.1 hm.2
    refine (?_ : WE (mBool _) _ _)
    repeat (walk_at "ev1")
    refine wo_ixL (tabS_get (i := i + p.1) (by omega)) (by omega) ?_
    repeat (walk_at "ev1")
    refine wo_ixS (j := j + p.2) (txt_get (j := j + p.2) (by omega)) (by rw [txt_len]; unfold sizeLine; omega) (by omega) ?_
    repeat (walk_at "ev1")
    refine wo_neS (x := sg (T (i + p.1) (j + p.2))) (sg_ok (by omega)) (sg_ok (by omega)) ?_
    repeat (walk_at "ev1")
    refine ⟨?_, rfl⟩
    by_cases e : T (i + p.1) (j + p.2) = L p.1 p.2
    · rw [decide_eq_true (sg_inj.mpr e), decide_eq_false (fun z => z e)]; rfl
    · rw [decide_eq_false (fun z => e (sg_inj.mp z)), decide_eq_true e]; rfl
  · repeat (walk_at "ev1")
  · repeat (walk_at "ev1")
    rw [List.length_map, cells_filter]
    rfl
def nD (h' w' : Nat) (T L : Nat → Nat → Nat) (p : Nat × Nat) : D := .tup [cD p, .int (num h' w' T L p)]
def tt : Nat → Nat → Bool := fun _ _ => true
theorem range_filter (n k : Nat) : (List.range n).filter (tt k) = List.range n := List.filter_eq_self.mpr fun _ _ => rfl
theorem numbers_ok (h0 : 0 < h) (w0 : 0 < w) (h0' : 0 < h') (w0' : 0 < w') (h9 : h < 100) (w9 : w < 100) (h9' : h' < 100) (w9' : w' < 100) (hT : SgT h w T) (hL : SgT h' w' L) :
    WC m__law_numbers 10 [lstS (tab h w T), lstS (tab h' w' L)] fun n d => n = true ∧ d = .lst ((cellsL (h + 1 - h') (w + 1 - w') tt).map (nD h' w' T L)) := by
  have eh : ((h : Int) - h' + 1).toNat = h + 1 - h' := by omega
  have ew : ((w : Int) - w' + 1).toNat = w + 1 - w' := by omega
  refine wc_of ?_
  unfold m__law_numbers
  repeat (walk_at "ev1")
  try (walk_at "ev0")
  simp only [List.length_map, tab_len]
  refine wl_mk (range1_int (by omega) (by omega)) ?_
  rw [eh]
  refine ws_items (fun i g => ∃ o3 o4 o5 o6 o7 o8 o9, g = [.im (lstS (tab h w T)), .im (lstS (tab h' w' L)), .mu (.lst ((cellsL i (w + 1 - w') tt).map (nD h' w' T L))), opt o3, opt o4, opt o5, opt o6, opt o7, opt o8, opt o9])
    ⟨none, none, none, none, none, none, none, rfl⟩ (fun i d g hi hv => ?_) fun g hv => ?_
  · obtain ⟨o3, o4, o5, o6, o7, o8, o9, rfl⟩ := hv
    obtain ⟨hi, rfl⟩ := rangeL_get hi
    rw [Int.zero_add]
    have hil : (cellsL i (w + 1 - w') tt).length ≤ 99 * 99 := Nat.le_trans cellsL_len (Nat.mul_le_mul (by omega) (by omega))
    repeat (walk_at "ev1")
    try (walk_at "ev0")
    refine wo_ixL (j := 0) (tabS_get h0) rfl ?_
    repeat (walk_at "ev1")
    refine wo_lenS txt_len (by unfold sizeLine; omega) ?_
    repeat (walk_at "ev1")
    refine wo_ixL (j := 0) (tabS_get h0') rfl ?_
    repeat (walk_at "ev1")
    refine wo_lenS txt_len (by unfold sizeLine; omega) ?_
    repeat (walk_at "ev1")
    try (walk_at "ev0")
    refine wl_mk (range1_int (by omega) (by omega)) ?_
    rw [ew]
    refine ws_items (fun j g => ∃ o4 o5 o6 o7 o8 o9, g = [.im (lstS (tab h w T)), .im (lstS (tab h' w' L)), .mu (.lst ((cellsL i (w + 1 - w') tt ++ (List.range j).map fun j => (i, j)).map (nD h' w' T L))), .im (.int i), opt o4, opt o5, opt o6, opt o7, opt o8, opt o9])
      ⟨o4, o5, o6, o7, o8, o9, by rw [List.range_zero, List.map_nil, List.append_nil]⟩ (fun j d g hj hv => ?_) fun g hv => ?_
    · obtain ⟨o4, o5, o6, o7, o8, o9, rfl⟩ := hv
      obtain ⟨hj, rfl⟩ := rangeL_get hj
      rw [Int.zero_add]
      repeat (walk_at "ev1")
      try (walk_at "ev0")
      refine wl_mk rfl ?_
      refine ws_items (fun r g => ∃ o6 o7 o8 o9, g = [.im (lstS (tab h w T)), .im (lstS (tab h' w' L)), .mu (.lst ((cellsL i (w + 1 - w') tt ++ (List.range j).map fun j => (i, j)).map (nD h' w' T L))), .im (.int i), .im (.int j), .im (.int (cellsL r w' (unB T L i j)).length), opt o6, opt o7, opt o8, opt o9])
        ⟨o6, o7, o8, o9, rfl⟩ (fun r d g hr hv => ?_) fun g hv => ?_
      · obtain ⟨o6, o7, o8, o9, rfl⟩ := hv
        obtain ⟨x, hx, rfl⟩ := enumL_get _ _ _ _ hr
        obtain ⟨hr2, rfl⟩ := tabS_at hx
        rw [Nat.zero_add]
        repeat (walk_at "ev1")
        try (walk_at "ev0")
        refine wl_mk rfl ?_
        refine ws_items (fun c g => ∃ o8 o9, g = [.im (lstS (tab h w T)), .im (lstS (tab h' w' L)), .mu (.lst ((cellsL i (w + 1 - w') tt ++ (List.range j).map fun j => (i, j)).map (nD h' w' T L))), .im (.int i), .im (.int j), .im (.int ((cellsL r w' (unB T L i j)).length + ((List.range c).filter (unB T L i j r)).length : Nat)), .im (.int r), .im (.str (txt w' (L r))), opt o8, opt o9])
          ⟨o8, o9, rfl⟩ (fun c d g hc hv => ?_) fun g hv => ?_
        · obtain ⟨o8, o9, rfl⟩ := hv
          obtain ⟨x, hx, rfl⟩ := enumL_get _ _ _ _ hc
          obtain ⟨hc2, rfl⟩ := signs_get hx
          rw [Nat.zero_add]
          have t1 := hT (i + r) (j + c) (by omega) (by omega)
          have t2 := hL r c hr2 hc2
          have fin : ∀ b : Bool, b = unB T L i j r c → ((cellsL r w' (unB T L i j)).length + ((List.range c).filter (unB T L i j r)).length : Nat) + (if b = true then (1 : Int) else 0) = (((cellsL r w' (unB T L i j)).length + ((List.range (c + 1)).filter (unB T L i j r)).length : Nat) : Int) := fun b hb => by
            rw [List.range_succ, List.filter_append, List.length_append]
            cases hu : unB T L i j r c with
            | true =>
              rw [hb, hu, List.filter_cons_of_pos hu]
              show _ + (1 : Int) = ((_ + (_ + 1) : Nat) : Int)
              omega
            | false =>
              rw [hb, hu, List.filter_cons_of_neg (by rw [hu]; decide)]
              show _ + (0 : Int) = ((_ + (_ + 0) : Nat) : Int)
              omega
          repeat (walk_at "ev1")
          refine wo_neS (sg_ok (by omega)) (by decide +kernel) ?_
          rw [show Str.ofString "?" = sg 63 from rfl]
          repeat (walk_at "ev1")
          by_cases e : L r c = 63
          · rw [decide_eq_true (sg_inj.mpr e)]
            repeat (walk_at "ev1")
            rw [fin false (by unfold unB; rw [decide_eq_false (fun z => z e)]; rfl)]
            exact ⟨some _, some _, rfl⟩
          · rw [decide_eq_false fun z => e (sg_inj.mp z)]
            repeat (walk_at "ev1")
            refine wo_ixL (tabS_get (i := i + r) (by omega)) (by omega) ?_
            repeat (walk_at "ev1")
            refine wo_ixS (j := j + c) (txt_get (j := j + c) (by omega)) (by rw [txt_len]; unfold sizeLine; omega) (by omega) ?_
            repeat (walk_at "ev1")
            refine wo_neS (y := sg (T (i + r) (j + c))) (sg_ok (by omega)) (sg_ok (by omega)) ?_
            repeat (walk_at "ev1")
            rw [fin (!decide (sg (L r c) = sg (T (i + r) (j + c)))) (by
              unfold unB
              rw [decide_eq_true e, Bool.true_and]
              by_cases e2 : T (i + r) (j + c) = L r c
              · rw [decide_eq_true (sg_inj.mpr e2.symm), decide_eq_false (fun z => z e2)]; rfl
              · rw [decide_eq_false (fun z => e2 (sg_inj.mp z).symm), decide_eq_true e2]; rfl)]
            exact ⟨some _, some _, rfl⟩
        · obtain ⟨o8, o9, rfl⟩ := hv
          repeat (walk_at "ev1")
          rw [enumL_len, signs_len, show ((cellsL r w' (unB T L i j)).length + ((List.range w').filter (unB T L i j r)).length : Nat) = (cellsL (r + 1) w' (unB T L i j)).length by rw [cellsL_succ, List.length_append, List.length_map]]
          exact ⟨some _, some _, o8, o9, rfl⟩
      · obtain ⟨o6, o7, o8, o9, rfl⟩ := hv
        have hjl : ((cellsL i (w + 1 - w') tt ++ (List.range j).map fun j => (i, j)).map (nD h' w' T L)).length < sizeLine := by
          rw [List.length_map, List.length_append, List.length_map, List.length_range]; unfold sizeLine; omega
        repeat (walk_at "ev1")
        try (walk_at "ev0")
        refine ⟨_, _, app_at hjl, ?_⟩
        rw [enumL_len, List.length_map, tab_len, show ((cellsL i (w + 1 - w') tt ++ (List.range j).map fun j => (i, j)).map (nD h' w' T L)) ++ [.tup [.tup [.int i, .int j], .int (cellsL h' w' (unB T L i j)).length]] = (cellsL i (w + 1 - w') tt ++ (List.range (j + 1)).map fun j => (i, j)).map (nD h' w' T L) by
          rw [List.range_succ]
          simp only [List.map_append, List.append_assoc]
          rfl]
        repeat (walk_at "ev1")
        exact ⟨some _, some _, o6, o7, o8, o9, rfl⟩
    · obtain ⟨o4, o5, o6, o7, o8, o9, rfl⟩ := hv
      repeat (walk_at "ev1")
      rw [rangeL_len, show cellsL i (w + 1 - w') tt ++ (List.range (w + 1 - w')).map (fun j => (i, j)) = cellsL (i + 1) (w + 1 - w') tt by rw [cellsL_succ, range_filter]]
      exact ⟨some _, o4, o5, o6, o7, o8, o9, rfl⟩
  · obtain ⟨o3, o4, o5, o6, o7, o8, o9, rfl⟩ := hv
    repeat (walk_at "ev1")
    rw [rangeL_len]
theorem nearest_ok (h0 : 0 < h) (w0 : 0 < w) (h0' : 0 < h') (w0' : 0 < w') (h9 : h < 100) (w9 : w < 100) (h9' : h' < 100) (w9' : w' < 100) (hT : GT h w T) (hL : SgT h' w' L) :
    WC m_nearest_cells 8 [lstS (tab h w T), lstS (tab h' w' L)] fun n d => (cellsL (h + 1 - h') (w + 1 - w') tt = [] → d = .non) ∧
      ∀ M : Nat, cellsL (h + 1 - h') (w + 1 - w') tt ≠ [] → minG [.lst ((cellsL (h + 1 - h') (w + 1 - w') tt).map fun p => .int (num h' w' T L p))] = some (false, .int M) →
        d = .tup [.int M, .lst (((cellsL (h + 1 - h') (w + 1 - w') tt).filter fun p => decide (num h' w' T L p = M)).map cD)] := by
  have hlen : (cellsL (h + 1 - h') (w + 1 - w') tt).length ≤ 100 * 100 := Nat.le_trans cellsL_len (Nat.mul_le_mul (by omega) (by omega))
  refine wc_of ?_
  unfold m_nearest_cells
  repeat (walk_at "ev1")
  refine (check_both_ok h0 w0 (by omega) (by omega) hT h0' w0' (by omega) (by omega) hL).mono fun b d hh => ?_
  subst hh
  repeat (walk_at "ev1")
  try (walk_at "ev0")
  refine (lie_ok h0 h0' h9 w9 h9' w9').mono fun b d hh => ?_
  obtain ⟨rfl, rfl⟩ := hh
  rw [show (cellsL (h + 1 - h') (w + 1 - w') fun _ _ => true) = cellsL (h + 1 - h') (w + 1 - w') tt from rfl]
  have hin : ∀ p ∈ cellsL (h + 1 - h') (w + 1 - w') tt, p.1 + h' ≤ h ∧ p.2 + w' ≤ w := fun p hp => by
    have := cells_mem hp
    omega
  generalize cellsL (h + 1 - h') (w + 1 - w') tt = ps at hlen hin ⊢
  repeat (walk_at "ev1")
  try (walk_at "ev0")
  rw [List.length_map]
  by_cases e : ps = []
  · subst e
    rw [decide_eq_true (show (([] : List (Nat × Nat)).length : Int) = 0 from rfl)]
    repeat (walk_at "ev1")
    exact fun M hM => absurd rfl hM
  · rw [decide_eq_false (fun z => e (List.length_eq_zero_iff.mp (by omega)))]
    repeat (walk_at "ev1")
    try (walk_at "ev0")
    refine (signs_exact (by omega) (by omega) hL).mono fun b d hh => ?_
    subst hh
    repeat (walk_at "ev1")
    try (walk_at "ev0")
    refine comp_mapL (xs := ps) (F := cD) (F' := fun p => .int (num h' w' T L p)) rfl (show 5 < 8 by decide) (by unfold sizeLine; omega) (fun p hp => ?_) ?_
    · have hb := hin p hp
      repeat (walk_at "ev1")
      try (walk_at "ev0")
      refine (unlike_ok (i := p.1) (j := p.2) hb.1 hb.2 h9 w9 hT.sg hL).mono fun n d hh => ?_
      obtain ⟨rfl, rfl⟩ := hh
      repeat (walk_at "ev1")
      try trivial
    repeat (walk_at "ev1")
    try (walk_at "ev0")
    obtain ⟨M, hM⟩ := min_num (ps := ps) (num h' w' T L) e
    refine wo_mk hM ?_
    repeat (walk_at "ev1")
    try (walk_at "ev0")
    refine wl_mk (zipX_maps (f := cD) (g := fun p => .int (num h' w' T L p)) (xs := ps)) ?_
    refine comp_filterT (F := fun p => .tup [cD p, .int (num h' w' T L p)]) (F' := cD) (Pt := fun p => decide (num h' w' T L p = M)) (fun p => [.im (lstS (tab h w T)), .im (lstS (tab h' w' L)), .im (.lst (ps.map cD)), .im (.lst ((cellsL h' w' (sgB L)).map (celD L))), .im (.lst (ps.map fun p => .int (num h' w' T L p))), .im (cD p), .im (.int M), .im (.int (num h' w' T L p))]) rfl (by unfold sizeLine; omega) (fun p _ => rfl) (fun p => rfl) (fun p => rfl) (fun p hp => ?_) (fun p hp _ => ?_) ?_
    · refine (?_ : WE (mBool _) _ _)
      repeat (walk_at "ev1")
      refine ⟨?_, rfl⟩
      by_cases q : num h' w' T L p = M
      · rw [decide_eq_true q, decide_eq_true (by omega)]
      · rw [decide_eq_false q, decide_eq_false (by omega)]
    · repeat (walk_at "ev1")
    · repeat (walk_at "ev1")
      refine ⟨fun z => absurd z e, fun M2 _ hM2 => ?_⟩
      rw [hM] at hM2
      have : M = M2 := by
        injection hM2 with hM2
        injection hM2 with _ hM2
        injection hM2 with hM2
        omega
      subst this
      rfl
theorem is_count_ok {k : Int} : WC Sp.m_is_count 1 [.int k] fun n r => n = false ∧ r = .bl (decide (0 ≤ k)) := by
  refine wc_of ?_
  unfold Sp.m_is_count
  repeat (walk_at "ev2")
  refine is_whole_ok.mono fun n d hh => ?_
  obtain ⟨rfl, rfl⟩ := hh
  repeat (walk_at "ev2")
theorem near_ok {k : Nat} (h0 : 0 < h) (w0 : 0 < w) (h0' : 0 < h') (w0' : 0 < w') (h9 : h < 100) (w9 : w < 100) (h9' : h' < 100) (w9' : w' < 100) (hT : GT h w T) (hL : SgT h' w' L) :
    WC m_near_cells 6 [lstS (tab h w T), lstS (tab h' w' L), .int k] fun n d => n = true ∧ d = .lst (((cellsL (h + 1 - h') (w + 1 - w') tt).filter fun p => decide (num h' w' T L p ≤ k)).map cD) := by
  have hlen : (cellsL (h + 1 - h') (w + 1 - w') tt).length ≤ 100 * 100 := Nat.le_trans cellsL_len (Nat.mul_le_mul (by omega) (by omega))
  refine wc_of ?_
  unfold m_near_cells
  repeat (walk_at "ev1")
  refine (check_both_ok h0 w0 (by omega) (by omega) hT h0' w0' (by omega) (by omega) hL).mono fun b d hh => ?_
  subst hh
  repeat (walk_at "ev1")
  try (walk_at "ev0")
  refine is_count_ok.mono fun b d hh => ?_
  obtain ⟨rfl, rfl⟩ := hh
  rw [decide_eq_true (by omega)]
  repeat (walk_at "ev1")
  try (walk_at "ev0")
  refine (signs_exact (by omega) (by omega) hL).mono fun b d hh => ?_
  subst hh
  repeat (walk_at "ev1")
  try (walk_at "ev0")
  refine (lie_ok h0 h0' h9 w9 h9' w9').mono fun b d hh => ?_
  obtain ⟨rfl, rfl⟩ := hh
  rw [show (cellsL (h + 1 - h') (w + 1 - w') fun _ _ => true) = cellsL (h + 1 - h') (w + 1 - w') tt from rfl]
  have hin : ∀ p ∈ cellsL (h + 1 - h') (w + 1 - w') tt, p.1 + h' ≤ h ∧ p.2 + w' ≤ w := fun p hp => by
    have := cells_mem hp
    omega
  generalize cellsL (h + 1 - h') (w + 1 - w') tt = ps at hlen hin ⊢
  repeat (walk_at "ev1")
  try (walk_at "ev0")
  refine comp_filterL (xs := ps) (F := cD) (F' := cD) (P := fun p => decide (num h' w' T L p ≤ k)) rfl (show 5 < 6 by decide) (by unfold sizeLine; omega) (fun p hp => ?_) (fun p hp _ => ?_) ?_
  · have hb := hin p hp
    repeat (walk_at "ev1")
    try (walk_at "ev0")
    refine (unlike_ok (i := p.1) (j := p.2) hb.1 hb.2 h9 w9 hT.sg hL).mono fun n d hh => ?_
    obtain ⟨rfl, rfl⟩ := hh
    repeat (walk_at "ev1")
    refine ⟨congrArg D.bl (decide_eq_decide.mpr ?_), rfl⟩
    show (num h' w' T L p : Int) ≤ k ↔ _
    omega
  · repeat (walk_at "ev1")
  · repeat (walk_at "ev1")
def cntB : D → Bool
  | .int i => decide (0 ≤ i)
  | _ => false
theorem whole_no {d : D} {T : String} (h : tyN d = some T) (hne : T ≠ "int") : WC Sp.m_is_whole 1 [d] fun n r => n = false ∧ r = .bl false := by
  refine wc_of ?_
  unfold Sp.m_is_whole
  repeat (walk_at "ev2")
  refine wo_typ h ?_
  repeat (walk_at "ev2")
  rw [decide_eq_false hne]
theorem count_b {d : D} (h : (tyN d).isSome = true) : WC Sp.m_is_count 1 [d] fun n r => n = false ∧ r = .bl (cntB d) := by
  cases d with
  | int i =>
    refine wc_of ?_
    unfold Sp.m_is_count
    repeat (walk_at "ev2")
    refine is_whole_ok.mono fun n d hh => ?_
    obtain ⟨rfl, rfl⟩ := hh
    repeat (walk_at "ev2")
    try exact rfl
  | _ =>
    first
    | (refine wc_of ?_
       unfold Sp.m_is_count
       repeat (walk_at "ev2")
       refine (whole_no rfl (by decide)).mono fun n d hh => ?_
       obtain ⟨rfl, rfl⟩ := hh
       repeat (walk_at "ev2")
       first | done | exact rfl)
    | cases h
theorem cell_ty {d : D} {T : String} (h : tyN d = some T) (hne : T ≠ "tuple") : WC Sp.m_is_cell 1 [d] fun n r => n = false ∧ r = .bl false := by
  refine wc_of ?_
  unfold Sp.m_is_cell
  repeat (walk_at "ev2")
  refine wo_typ h ?_
  repeat (walk_at "ev2")
  rw [decide_eq_false hne]
  repeat (walk_at "ev2")
theorem cell_1 {x : D} : WC Sp.m_is_cell 1 [.tup [x]] fun n r => n = false ∧ r = .bl false := by
  refine wc_of ?_
  unfold Sp.m_is_cell
  repeat (walk_at "ev2")
theorem cell_3 {x y z : D} : WC Sp.m_is_cell 1 [.tup [x, y, z]] fun n r => n = false ∧ r = .bl false := by
  refine wc_of ?_
  unfold Sp.m_is_cell
  repeat (walk_at "ev2")
theorem cell_2 {x y : D} (hx : (tyN x).isSome = true) (hy : (tyN y).isSome = true) : WC Sp.m_is_cell 1 [.tup [x, y]] fun n r => n = false ∧ r = .bl (cntB x && cntB y) := by
  refine wc_of ?_
  unfold Sp.m_is_cell
  repeat (walk_at "ev2")
  refine (count_b hx).mono fun n d hh => ?_
  obtain ⟨rfl, rfl⟩ := hh
  repeat (walk_at "ev2")
  refine iteb (fun e => ?_) fun e => ?_
  · rw [e]
    repeat (walk_at "ev2")
    refine (count_b hy).mono fun n d hh => ?_
    obtain ⟨rfl, rfl⟩ := hh
    repeat (walk_at "ev2")
    try exact rfl
  · rw [e]
    repeat (walk_at "ev2")
    try exact rfl
theorem near_bad {d : D} (h0 : 0 < h) (w0 : 0 < w) (h0' : 0 < h') (w0' : 0 < w') (h9 : h < 100) (w9 : w < 100) (h9' : h' < 100) (w9' : w' < 100) (hT : GT h w T) (hL : SgT h' w' L) (hd : (tyN d).isSome = true) (hb : cntB d = false) : WCX m_near_cells 6 [lstS (tab h w T), lstS (tab h' w' L), d] "NoNumber" := by
  refine wcx_of ?_
  unfold m_near_cells
  repeat (walk_at "ev1")
  refine (check_both_ok h0 w0 (by omega) (by omega) hT h0' w0' (by omega) (by omega) hL).mono fun b r hh => ?_
  subst hh
  repeat (walk_at "ev1")
  try (walk_at "ev0")
  refine (count_b hd).mono fun b r hh => ?_
  obtain ⟨rfl, rfl⟩ := hh
  rw [hb]
  repeat (walk_at "ev1")
  try (walk_at "ev0")
  exact ⟨_, rfl⟩
theorem at_ok {p : Nat × Nat} (h0 : 0 < h) (w0 : 0 < w) (h0' : 0 < h') (w0' : 0 < w') (h9 : h < 100) (w9 : w < 100) (h9' : h' < 100) (w9' : w' < 100) (hT : GT h w T) (hL : SgT h' w' L) (hp : p.1 + h' ≤ h ∧ p.2 + w' ≤ w) : WC m_unlike_at 3 [lstS (tab h w T), lstS (tab h' w' L), cD p] fun n d => n = false ∧ d = .int (num h' w' T L p) := by
  refine wc_of ?_
  unfold m_unlike_at
  repeat (walk_at "ev1")
  refine (check_both_ok h0 w0 (by omega) (by omega) hT h0' w0' (by omega) (by omega) hL).mono fun b r hh => ?_
  subst hh
  repeat (walk_at "ev1")
  try (walk_at "ev0")
  refine (cell_2 (x := .int p.1) (y := .int p.2) rfl rfl).mono fun b r hh => ?_
  obtain ⟨rfl, rfl⟩ := hh
  rw [show (cntB (.int p.1) && cntB (.int p.2)) = true by show (decide (0 ≤ (p.1 : Int)) && decide (0 ≤ (p.2 : Int))) = true; rw [decide_eq_true (by omega), decide_eq_true (by omega)]; rfl]
  repeat (walk_at "ev1")
  try (walk_at "ev0")
  refine (lies_ok (i := p.1) (j := p.2) h0 h0' (by omega) (by omega)).mono fun b r hh => ?_
  obtain ⟨rfl, b, rfl, hb⟩ := hh
  rw [show b = true from hb.iff.mpr (by omega)]
  repeat (walk_at "ev1")
  try (walk_at "ev0")
  refine (signs_exact (by omega) (by omega) hL).mono fun b d hh => ?_
  subst hh
  repeat (walk_at "ev1")
  try (walk_at "ev0")
  refine (unlike_ok (i := p.1) (j := p.2) hp.1 hp.2 h9 w9 hT.sg hL).mono fun n d hh => ?_
  obtain ⟨rfl, rfl⟩ := hh
  repeat (walk_at "ev1")
  try trivial
/-- what is no cell at which it lies -/
def BadCell (h w h' w' : Nat) (d : D) : Prop := (WC Sp.m_is_cell 1 [d] fun n r => n = false ∧ r = .bl false) ∨ ∃ i j : Int, d = .tup [.int i, .int j] ∧ 0 ≤ i ∧ 0 ≤ j ∧ ¬ (i + h' ≤ h ∧ j + w' ≤ w)
theorem at_bad {d : D} (h0 : 0 < h) (w0 : 0 < w) (h0' : 0 < h') (w0' : 0 < w') (h9 : h < 100) (w9 : w < 100) (h9' : h' < 100) (w9' : w' < 100) (hT : GT h w T) (hL : SgT h' w' L) (hd : BadCell h w h' w' d) : WCX m_unlike_at 3 [lstS (tab h w T), lstS (tab h' w' L), d] "NoCell" := by
  refine wcx_of ?_
  unfold m_unlike_at
  repeat (walk_at "ev1")
  refine (check_both_ok h0 w0 (by omega) (by omega) hT h0' w0' (by omega) (by omega) hL).mono fun b r hh => ?_
  subst hh
  repeat (walk_at "ev1")
  try (walk_at "ev0")
  rcases hd with hd | ⟨i, j, rfl, i0, j0, hn⟩
  · refine hd.mono fun b r hh => ?_
    obtain ⟨rfl, rfl⟩ := hh
    repeat (walk_at "ev1")
    try (walk_at "ev0")
    exact ⟨_, rfl⟩
  · refine (cell_2 (x := .int i) (y := .int j) rfl rfl).mono fun b r hh => ?_
    obtain ⟨rfl, rfl⟩ := hh
    rw [show (cntB (.int i) && cntB (.int j)) = true by show (decide (0 ≤ i) && decide (0 ≤ j)) = true; rw [decide_eq_true i0, decide_eq_true j0]; rfl]
    repeat (walk_at "ev1")
    try (walk_at "ev0")
    refine (lies_ok (i := i) (j := j) h0 h0' (by omega) (by omega)).mono fun b r hh => ?_
    obtain ⟨rfl, b, rfl, hb⟩ := hh
    rw [show b = false from by cases b; rfl; exact absurd (hb.iff.mp rfl) (by omega)]
    repeat (walk_at "ev1")
    try (walk_at "ev0")
    exact ⟨_, rfl⟩
end
end K26
set_option Elab.async false
set_option linter.all false
set_option maxRecDepth 100000
namespace WR
open PySem PySem.Spec PyProof.Rows L2 TL N7

theorem str_eq {s t : Str} (h : s.cps.toList = t.cps.toList) : s = t := by
  cases s; cases t
  congr 1
  exact Array.toList_inj.mp h
def two : List Nat → Bool
  | [] => false
  | a :: r => (a == 47 && r.head? == some 47) || two r
def dblS (s : Str) : Str := Txt.replace s "/" "//"
def anySl (rows : List Str) : Bool := rows.any fun s => inStr "/" s
def written (rows : List Str) : Str := if anySl rows = true then Txt.join " " (rows.map dblS) else Txt.join "/" rows
/-- rows that are not empty and bear no blank, of few signs -/
def Rows (rows : List Str) : Prop := rows ≠ [] ∧ rows.length ≤ 1000 ∧ ∀ s ∈ rows, tl s ≠ [] ∧ s.length ≤ 1000 ∧ ∀ c ∈ tl s, 33 ≤ c ∧ c ≤ 126
def Lit (w : Nat) (rows : List Str) : Prop := rows ≠ [] ∧ rows.length ≤ 100 ∧ 0 < w ∧ w ≤ 100 ∧ ∀ s ∈ rows, s.length = w ∧ ∀ c ∈ tl s, SgN c
theorem Lit.rows {w : Nat} {rows : List Str} (h : Lit w rows) : Rows rows := by
  obtain ⟨h1, h2, h3, h4, h5⟩ := h
  refine ⟨h1, by omega, fun s hs => ⟨fun e => ?_, by have := (h5 s hs).1; omega, fun c hc => ((h5 s hs).2 c hc).1⟩⟩
  have := (h5 s hs).1
  rw [len_tl, e] at this
  exact absurd this (by show ¬ 0 = w; omega)
theorem Lit.okS {w : Nat} {rows : List Str} (h : Lit w rows) : ∀ s ∈ rows, okS s := fun s hs => by
  obtain ⟨h1, h2, h3, h4, h5⟩ := h
  refine ⟨by have := (h5 s hs).1; omega, fun c hc => ?_⟩
  have := (h5 s hs).2 c hc
  unfold SgN at this
  omega
theorem Lit.okL {w : Nat} {rows : List Str} (h : Lit w rows) : okL rows := fun s hs => (h.okS s hs).ok
theorem Lit.thing {w : Nat} {rows : List Str} (h : Lit w rows) : thing (lstS rows) := by
  refine ⟨by rw [List.length_map]; have := h.2.1; omega, fun e he => ?_⟩
  obtain ⟨s, hs, rfl⟩ := List.mem_map.mp he
  exact h.okS s hs
theorem Lit.one {w : Nat} {rows : List Str} {s : Str} (h : Lit w rows) (hs : s ∈ rows) : Lit w [s] :=
  ⟨by simp, (by decide : 1 ≤ 100), h.2.2.1, h.2.2.2.1, fun x hx => by rw [List.mem_singleton.mp hx]; exact h.2.2.2.2 s hs⟩
section
variable {h w : Nat} {P : Nat → Nat → Bool}
end
end WR
set_option Elab.async false
set_option linter.all false
set_option maxRecDepth 100000
set_option maxHeartbeats 4000000
namespace K26
open PySem PySem.Spec PyProof.Rows L2 TL
local macro_rules | `(tactic| walk_at "ev1") => `(tactic| first
  | with_reducible refine ws_seq.mpr ?_
  | with_reducible refine ws_next.mpr ?_
  | with_reducible refine ws_set ?_
  | with_reducible refine ws_setMu ?_
  | with_reducible refine ws_expr ?_
  | with_reducible refine ws_ret ?_
  | ((with_reducible refine ws_retMu ?_); refine ⟨_, rfl, ?_⟩)
  | with_reducible refine ws_if ?_
  | with_reducible refine ws_setIx ?_
  | with_reducible refine ws_asg ?_
  | with_reducible refine ws_for ?_
  | ((with_reducible refine ws_demote ?_); refine ⟨_, rfl, ?_⟩)
  | ((with_reducible refine we_var.mpr ?_); refine ⟨_, rfl, ?_⟩)
  | with_reducible refine we_c.mpr ?_
  | with_reducible refine we_bin.mpr ?_
  | with_reducible refine we_un.mpr ?_
  | with_reducible refine we_bool' ?_
  | with_reducible refine we_andT.mpr ?_
  | with_reducible refine we_orT.mpr ?_
  | with_reducible refine we_notT.mpr ?_
  | with_reducible refine we_andV.mpr ?_
  | with_reducible refine we_orV.mpr ?_
  | with_reducible refine we_notV.mpr ?_
  | with_reducible refine we_if.mpr ?_
  | with_reducible refine we_lst.mpr ?_
  | with_reducible refine we_tup.mpr ?_
  | with_reducible refine we_B.mpr ?_
  | with_reducible refine we_M.mpr ?_
  | with_reducible refine we_call.mpr ?_
  | ((with_reducible refine we_callIo.mpr ?_); refine ⟨⟨_, rfl⟩, ?_⟩)
  | ((with_reducible refine we_frz.mpr ?_); refine ⟨_, rfl, ?_⟩)
  | ((with_reducible refine we_rd.mpr ?_); refine ⟨⟨_, rfl⟩, ?_⟩)
  | ((with_reducible refine we_rd1.mpr ?_); refine ⟨_, rfl, ?_⟩)
  | ((with_reducible refine we_mut.mpr ?_); refine ⟨⟨_, rfl, rfl⟩, ?_⟩)
  | with_reducible refine we_chain.mpr ?_
  | with_reducible refine we_comp ?_
  | with_reducible refine we_sl ?_
  | with_reducible refine wpo_none ?_
  | with_reducible refine wpo_some ?_
  | with_reducible refine wa_nil.mpr ?_
  | with_reducible refine wa_cons.mpr ?_
  | with_reducible refine wa_items.mpr ?_
  | with_reducible refine wa_of' ?_
  | with_reducible refine wt_bl.mpr ?_
  | with_reducible refine wo_eqI ?_
  | with_reducible refine wo_neI ?_
  | with_reducible refine wo_eqB ?_
  | with_reducible refine wo_neB ?_
  | (with_reducible refine wo_fdiv (by omega) ?_)
  | (with_reducible refine wo_mod (by omega) ?_)
  | ((with_reducible refine wo_mul ?_ ?_); (focus first | (left; omega) | (right; omega)))
  | (refine wo_mk (n := _) (z := _) rfl ?_)
  | with_reducible refine ite_t rfl ?_
  | with_reducible refine ite_f (by decide) ?_
  | refine ⟨_, rfl, ?_⟩
  | refine ⟨rfl, ?_⟩
  | refine ⟨⟨rfl, rfl⟩, ?_⟩
  | refine ⟨⟨_, rfl⟩, ?_⟩
  | refine ⟨by decide, ?_⟩
  | refine ⟨by simp only [List.length_cons, List.length_nil]; decide, ?_⟩
  | refine ⟨by simp only [List.set_cons_succ, List.set_cons_zero, free_suc, free_opt, free_optM, free_im, free_mu, free_no, and_self], ?_⟩
  | refine ⟨_, put_at (by simp only [List.set_cons_succ, List.set_cons_zero, free_suc, free_opt, free_optM, free_im, free_mu, free_no, and_self]), ?_⟩
  | refine ⟨_, gtup2 (by simp only [List.set_cons_succ, List.set_cons_zero, free_suc, free_opt, free_optM, free_im, free_mu, free_no, and_self]) (by simp only [List.set_cons_succ, List.set_cons_zero, free_suc, free_opt, free_optM, free_im, free_mu, free_no, and_self]), ?_⟩
  | with_reducible exact rfl)
local macro_rules | `(tactic| walk_at "ev0") => `(tactic| simp only [argsG, List.map_cons, List.map_nil, List.length_cons, List.length_nil, Nat.reduceAdd, Nat.reduceSub, List.replicate_succ, List.replicate_zero, List.cons_append, List.nil_append, List.set_cons_succ, List.set_cons_zero])
theorem wo_fdivX {i j : Int} {P : Bool → D → Prop} (h : 0 < j ∧ j.natAbs < 2 ^ 200) (p : P false (.int (i / j))) : WO (fdivX (.int i) (.int j)) P := ⟨_, _, if_pos (wide_div h.1 h.2 (by decide) (by decide)), p⟩
theorem draw_big {n : Nat} {d : D} {m : Int} (hp : PoolN n d) (hn : n < 1000000) (hm : 0 < m) (hm2 : m.natAbs < 2 ^ 200) : WCio m__law_draw 4 d [.int m] fun b r d' => b = false ∧ (∃ i : Nat, r = .int i ∧ (i : Int) < m) ∧ PoolN (n + 1) d' := by
  obtain ⟨x, y, z, rfl, hz0, hz1⟩ := hp
  refine wcio_of ?_
  unfold m__law_draw
  repeat (walk_at "ev1")
  refine iteb (fun hy => ?_) fun hy => ?_
  · repeat (walk_at "ev1")
    refine wo_fdivX ⟨hm, hm2⟩ ?_
    repeat (walk_at "ev1")
    obtain ⟨q, hq, hq2⟩ := modP x m hm
    exact ⟨⟨q, by rw [hq], hq2⟩, _, _, _, rfl, hz0, by omega⟩
  · repeat (walk_at "ev1")
    refine ⟨?_, _, _, _, rfl, by omega, by omega⟩
    generalize (x % 999999999989 + 620033 * (z + 1)) % 999999999989 = a
    generalize ((a * a % 1000000000039 + 430019) * (a * a % 1000000000039) % 999999999961 / 7) = b
    obtain ⟨q, hq, hq2⟩ := modP b m hm
    exact ⟨q, by rw [hq], hq2⟩
theorem draw_ok {n : Nat} {d : D} {m : Int} (hp : PoolN n d) (hn : n < 1000000) (hm : 0 < m) (hm2 : m < 1073741824) : WCio m__law_draw 4 d [.int m] fun b r d' => b = false ∧ (∃ i : Nat, r = .int i ∧ (i : Int) < m) ∧ PoolN (n + 1) d' :=
  draw_big hp hn hm (Nat.lt_of_lt_of_le (show m.natAbs < 2 ^ 30 by omega) (by decide))
theorem allS : ∃ cs : List Nat, (Str.ofString "!\"#$&'()*+,-./0123456789:;<=>@ABCDEFGHIJKLMNOPQRSTUVWXYZ" ++ Str.ofString "[\\]^_`abcdefghijklmnopqrstuvwxyz{|}~" : Str) = ⟨cs.toArray⟩ ∧ cs.length = 92 ∧ ∀ c ∈ cs, SgC c :=
  ⟨(Str.ofString "!\"#$&'()*+,-./0123456789:;<=>@ABCDEFGHIJKLMNOPQRSTUVWXYZ" ++ Str.ofString "[\\]^_`abcdefghijklmnopqrstuvwxyz{|}~" : Str).cps.toList, by rw [Array.toArray_toList], by decide +kernel, by unfold SgC; decide +kernel⟩
theorem signs_ok {n many : Nat} {d : D} (hp : PoolN n d) (hn : n < 900000) (m0 : 0 < many) (m9 : many < 1000) : WCio m__law_signs 5 d [.int many] fun b r d' => b = true ∧ (∃ cs : List Nat, r = .lst ((cs.map sg).map .str) ∧ cs.length = many ∧ ∀ c ∈ cs, SgC c) ∧ PoolN (n + 1) d' := by
  obtain ⟨cs, ecs, hl, hc⟩ := allS
  refine wcio_of ?_
  unfold m__law_signs
  repeat (walk_at "ev1")
  have ln : (⟨cs.toArray⟩ : Str).length = 92 := hl
  rw [ecs, ln]
  refine (draw_ok hp (by omega) (by omega) (by omega)).mono fun b r d2 hh => ?_
  obtain ⟨rfl, ⟨a, rfl, ha⟩, hp⟩ := hh
  walk_at "ev0"
  repeat (walk_at "ev1")
  refine wl_pureR (fun k => .str (sg (cs.getD ((a + k) % 92) 0))) (by omega) rfl (show 4 < 5 by decide) (fun k hk => ?_) ?_
  · repeat (walk_at "ev1")
    refine wo_lenS ln (by decide) ?_
    repeat (walk_at "ev1")
    have hlt : (a + k) % 92 < cs.length := by rw [hl]; exact Nat.mod_lt _ (by decide)
    refine wo_ixS (j := (a + k) % 92) (c := cs.getD ((a + k) % 92) 0) ?_ (by rw [ln]; decide) rfl ?_
    · show cs[(a + k) % 92]? = _
      rw [List.getD_eq_getElem?_getD, List.getElem?_eq_getElem hlt]
      rfl
    exact ⟨rfl, rfl⟩
  repeat (walk_at "ev1")
  refine ⟨⟨(List.range many).map fun k => cs.getD ((a + k) % 92) 0, by rw [List.map_map, List.map_map]; rfl, by rw [List.length_map, List.length_range], fun c hcm => ?_⟩, hp⟩
  obtain ⟨k, _, rfl⟩ := List.mem_map.mp hcm
  have hlt : (a + k) % 92 < cs.length := by rw [hl]; exact Nat.mod_lt _ (by decide)
  rw [List.getD_eq_getElem?_getD, List.getElem?_eq_getElem hlt]
  exact hc _ (List.getElem_mem hlt)
theorem row_ok {n w : Nat} {d : D} {cs : List Nat} (hp : PoolN n d) (hn : n < 800000) (w9 : w < 1000) (h0 : 0 < cs.length) (h9 : cs.length < 1000) (hc : ∀ c ∈ cs, SgC c) :
    WCio m__law_row 4 d [.lst ((cs.map sg).map .str), .int w] fun b r d' => b = true ∧ (∃ ds : List Nat, r = .lst ((ds.map sg).map .str) ∧ ds.length = w ∧ ∀ c ∈ ds, SgC c) ∧ PoolN (n + w) d' := by
  refine wcio_of ?_
  unfold m__law_row
  repeat (walk_at "ev1")
  refine wl_compR (fun j acc g => ∃ p ds, acc = (ds.map sg).map D.str ∧ ds.length = j ∧ (∀ c ∈ ds, SgC c) ∧ g = [.io p, .im (.lst ((cs.map sg).map .str)), .im (.int w), .no] ∧ PoolN (n + j) p)
    (by omega) ⟨d, [], rfl, rfl, (fun c hc => by cases hc), rfl, hp⟩ (fun j acc g hj hv => ?_) fun acc g2 hv => ?_
  · obtain ⟨p, ds, rfl, hds, hdc, rfl, hp⟩ := hv
    repeat (walk_at "ev1")
    rw [List.length_map, List.length_map]
    refine (draw_ok hp (by omega) (by omega) (by omega)).mono fun b r d3 hh => ?_
    obtain ⟨rfl, ⟨x, rfl, hx⟩, hp⟩ := hh
    have hx2 : x < cs.length := by omega
    repeat (walk_at "ev1")
    refine wo_ixL (d := .str (sg cs[x])) (by rw [List.getElem?_map, List.getElem?_map, List.getElem?_eq_getElem hx2]; rfl) rfl ?_
    refine ⟨⟨by simp only [List.length_map]; unfold sizeLine; omega, rfl⟩, _, ds ++ [cs[x]], sg_snoc, by rw [List.length_append, hds]; rfl, ?_, rfl, hp⟩
    intro c hcc
    rcases List.mem_append.mp hcc with h | h
    · exact hdc c h
    · rw [List.mem_singleton.mp h]; exact hc _ (List.getElem_mem _)
  · obtain ⟨p, ds, rfl, hds, hdc, rfl, hp⟩ := hv
    repeat (walk_at "ev1")
    exact ⟨⟨ds, rfl, hds, hdc⟩, hp⟩
theorem many6 {x : Nat} (h : x < 6) : ∃ m : Nat, ([D.int 2, .int 1, .int 2, .int 3, .int 5, .int 92] : List D)[x]? = some (.int m) ∧ 0 < m ∧ m ≤ 92 := by
  rcases x with _ | _ | _ | _ | _ | _ | x <;> first | omega | exact ⟨2, rfl, by omega, by omega⟩ | exact ⟨1, rfl, by omega, by omega⟩ | exact ⟨3, rfl, by omega, by omega⟩ | exact ⟨5, rfl, by omega, by omega⟩ | exact ⟨92, rfl, by omega, by omega⟩
theorem txt_of {ds : List Nat} {w : Nat} (h : ds.length = w) : (⟨ds.toArray⟩ : Str) = txt w fun b => ds.getD b 0 := by
  unfold txt
  congr 2
  apply List.ext_getElem
  · rw [List.length_map, List.length_range, h]
  · intro b h1 h2
    rw [List.getElem_map, List.getElem_range, List.getD_eq_getElem?_getD, List.getElem?_eq_getElem h1]
    rfl
theorem getD_P {P : Nat → Prop} {ds : List Nat} {b : Nat} (h : ∀ c ∈ ds, P c) (hb : b < ds.length) : P (ds.getD b 0) := by
  rw [List.getD_eq_getElem?_getD, List.getElem?_eq_getElem hb]
  exact h _ (List.getElem_mem hb)
def tileD (w : Nat) (ts : List (List Nat)) : List D := ts.map fun ds => .lst ((ds.map sg).map .str)
theorem great_ok {n h w : Nat} {d : D} (hp : PoolN n d) (hn : n < 700000) (h0 : 0 < h) (h9 : h ≤ 40) (w0 : 0 < w) (w9 : w ≤ 40) :
    WCio m__law_great 10 d [.int h, .int w] fun b r d' => b = true ∧ (∃ T, r = lstS (tab h w T) ∧ GT h w T) ∧ PoolN (n + 5 + h * w + 16) d' := by
  have hhw : h * w ≤ 40 * 40 := Nat.mul_le_mul h9 w9
  refine wcio_of ?_
  unfold m__law_great
  repeat (walk_at "ev1")
  refine (draw_ok hp (by omega) (by omega) (by omega)).mono fun b r d2 hh => ?_
  obtain ⟨rfl, ⟨x, rfl, hx⟩, hp⟩ := hh
  repeat (walk_at "ev1")
  obtain ⟨many, em, m0, m9⟩ := many6 (x := x) (by omega)
  refine wo_ixL em rfl ?_
  repeat (walk_at "ev1")
  refine (signs_ok hp (by omega) m0 (by omega)).mono fun b r d3 hh => ?_
  obtain ⟨rfl, ⟨cs, rfl, hcl, hcs⟩, hp⟩ := hh
  walk_at "ev0"
  repeat (walk_at "ev1")
  refine (draw_ok hp (by omega) (by omega) (by omega)).mono fun b r d4 hh => ?_
  obtain ⟨rfl, ⟨x, rfl, hx⟩, hp⟩ := hh
  walk_at "ev0"
  repeat (walk_at "ev1")
  refine iteb (fun hy => ?_) fun hy => ?_
  · repeat (walk_at "ev1")
    refine (draw_ok hp (by omega) (by split <;> omega) (by split <;> omega)).mono fun b r d5 hh => ?_
    obtain ⟨rfl, ⟨high, rfl, hh1⟩, hp⟩ := hh
    walk_at "ev0"
    repeat (walk_at "ev1")
    have hh4 : high < 4 := by split at hh1 <;> omega
    rw [show (1 : Int) + (high : Int) = ((1 + high : Nat) : Int) by omega]
    generalize eh : 1 + high = H
    refine (draw_ok hp (by omega) (by split <;> omega) (by split <;> omega)).mono fun b r d6 hh => ?_
    obtain ⟨rfl, ⟨wide, rfl, hw1⟩, hp⟩ := hh
    walk_at "ev0"
    repeat (walk_at "ev1")
    have hw4 : wide < 4 := by split at hw1 <;> omega
    rw [show (1 : Int) + (wide : Int) = ((1 + wide : Nat) : Int) by omega]
    generalize ew : 1 + wide = W
    have hHW : H * W ≤ 4 * 4 := Nat.mul_le_mul (by omega) (by omega)
    walk_at "ev0"
    refine wl_compR (fun i acc g => ∃ p ts, acc = tileD W ts ∧ ts.length = i ∧ (∀ ds ∈ ts, ds.length = W ∧ ∀ c ∈ ds, SgC c) ∧ g = [.io p, .im (.int h), .im (.int w), .im (.lst ((cs.map sg).map .str)), .im (.int H), .im (.int W), .no, .no, .no, .no] ∧ PoolN (n + 5 + i * W) p)
      (by omega) ⟨d6, [], rfl, rfl, (fun c hc => by cases hc), rfl, by rw [Nat.zero_mul]; exact hp⟩ (fun i acc g hi hv => ?_) fun acc g2 hv => ?_
    · obtain ⟨p, ts, rfl, hts, htc, rfl, hp⟩ := hv
      have hiw : i * W + W ≤ H * W := by rw [← Nat.succ_mul]; exact Nat.mul_le_mul_right W hi
      repeat (walk_at "ev1")
      refine (row_ok hp (by omega) (by omega) (by omega) (by omega) hcs).mono fun b r d5 hh => ?_
      obtain ⟨rfl, ⟨ds, rfl, hds, hdc⟩, hp⟩ := hh
      walk_at "ev0"
      repeat (walk_at "ev1")
      refine ⟨⟨by unfold tileD; rw [List.length_map]; unfold sizeLine; omega, rfl⟩, _, ts ++ [ds], by unfold tileD; rw [List.map_append]; rfl, by rw [List.length_append, hts]; rfl, fun es he => ?_, rfl, by rw [Nat.succ_mul, ← Nat.add_assoc]; exact hp⟩
      rcases List.mem_append.mp he with z | z
      · exact htc es z
      · rw [List.mem_singleton.mp z]; exact ⟨hds, hdc⟩
    obtain ⟨p, ts, rfl, hts, htc, rfl, hp⟩ := hv
    walk_at "ev0"
    repeat (walk_at "ev1")
    walk_at "ev0"
    refine ws_range (fun i g => ∃ T o7, g = [.io p, .im (.int h), .im (.int w), .im (.lst ((cs.map sg).map .str)), .im (.int H), .im (.int W), .im (.lst (tileD W ts)), opt o7, .mu (lstS (tab i w T)), .no] ∧ GT i w T)
      (by omega) ⟨fun _ _ => 0, none, rfl, fun i j hi => by omega⟩ (fun i g hi hv => ?_) fun g hv => ?_
    · obtain ⟨T, o7, rfl, hT⟩ := hv
      repeat (walk_at "ev1")
      have hiH : i % H < ts.length := by rw [hts]; exact Nat.mod_lt _ (by omega)
      have hdl := htc _ (List.getElem_mem hiH)
      generalize eds : ts[i % H] = ds at hdl
      have get1 : (tileD W ts)[i % H]? = some (.lst ((ds.map sg).map .str)) := by unfold tileD; rw [List.getElem?_map, List.getElem?_eq_getElem hiH, eds]; rfl
      walk_at "ev0"
      refine wl_pureR (fun j => .str (sg (ds.getD (j % W) 0))) (by omega) rfl (show 9 < 10 by decide) (fun j hj => ?_) ?_
      · repeat (walk_at "ev1")
        refine wo_ixL (j := i % H) get1 rfl ?_
        repeat (walk_at "ev1")
        have hjW : j % W < ds.length := by rw [hdl.1]; exact Nat.mod_lt _ (by omega)
        refine wo_ixL (j := j % W) (d := .str (sg (ds.getD (j % W) 0))) (by rw [List.getElem?_map, List.getElem?_map, List.getElem?_eq_getElem hjW, List.getD_eq_getElem?_getD, List.getElem?_eq_getElem hjW]; rfl) rfl ?_
        exact ⟨rfl, rfl⟩
      rw [show ((List.range w).map fun j => D.str (sg (ds.getD (j % W) 0))) = (((List.range w).map fun j => ds.getD (j % W) 0).map sg).map D.str by rw [List.map_map, List.map_map]; rfl]
      repeat (walk_at "ev1")
      refine wo_join (cs := (List.range w).map fun j => ds.getD (j % W) 0) (by rw [List.length_map, List.length_range]; omega) ?_
      repeat (walk_at "ev1")
      refine ⟨_, _, app_at (by rw [List.length_map, tab_len]; unfold sizeLine; omega), ?_⟩
      rw [show (⟨((List.range w).map fun j => ds.getD (j % W) 0).toArray⟩ : Str) = txt w (fun j => ds.getD (j % W) 0) from rfl, lst_snoc, rows_snoc]
      repeat (walk_at "ev1")
      exact ⟨_, some _, rfl, rows_sgP hT fun b _ => getD_P hdl.2 (by rw [hdl.1]; exact Nat.mod_lt _ (by omega))⟩
    · obtain ⟨T, o7, rfl, hT⟩ := hv
      repeat (walk_at "ev1")
      exact ⟨⟨T, rfl, hT⟩, PoolN.le hp (by omega)⟩
  · repeat (walk_at "ev1")
    refine wl_compR (fun i acc g => ∃ p T, acc = (tab i w T).map D.str ∧ GT i w T ∧ g = [.io p, .im (.int h), .im (.int w), .im (.lst ((cs.map sg).map .str)), .no, .no, .no, .no, .no, .no] ∧ PoolN (n + 3 + i * w) p)
      (by omega) ⟨d4, fun _ _ => 0, rfl, (fun i j hi => by omega), rfl, by rw [Nat.zero_mul]; exact hp⟩ (fun i acc g hi hv => ?_) fun acc g2 hv => ?_
    · obtain ⟨p, T, rfl, hT, rfl, hp⟩ := hv
      have hiw : i * w + w ≤ h * w := by rw [← Nat.succ_mul]; exact Nat.mul_le_mul_right w hi
      repeat (walk_at "ev1")
      refine (row_ok hp (by omega) (by omega) (by omega) (by omega) hcs).mono fun b r d5 hh => ?_
      obtain ⟨rfl, ⟨ds, rfl, hds, hdc⟩, hp⟩ := hh
      walk_at "ev0"
      repeat (walk_at "ev1")
      refine wo_join (cs := ds) (by omega) ?_
      repeat (walk_at "ev1")
      rw [txt_of hds]
      refine ⟨⟨by rw [List.length_map, tab_len]; unfold sizeLine; omega, rfl⟩, _, fun a b => if a < i then T a b else ds.getD b 0, ?_, rows_sgP hT fun b hb => getD_P hdc (by omega), rfl, by rw [Nat.succ_mul, ← Nat.add_assoc]; exact hp⟩
      rw [← rows_snoc, List.map_append]
      rfl
    · obtain ⟨p, T, rfl, hT, rfl, hp⟩ := hv
      repeat (walk_at "ev1")
      exact ⟨⟨T, rfl, hT⟩, PoolN.le hp (by omega)⟩
theorem free5 {x : Nat} (h : x < 5) : ∃ m : Nat, ([D.int 0, .int 0, .int 2, .int 4, .int 1] : List D)[x]? = some (.int m) ∧ m ≤ 4 := by
  rcases x with _ | _ | _ | _ | _ | x <;> first | omega | exact ⟨0, rfl, by omega⟩ | exact ⟨2, rfl, by omega⟩ | exact ⟨4, rfl, by omega⟩ | exact ⟨1, rfl, by omega⟩
theorem little_ok {n h w h' w' : Nat} {d : D} {T : Nat → Nat → Nat} (hp : PoolN n d) (hn : n < 700000) (hT : GT h w T) (h0 : 0 < h) (h9 : h ≤ 40) (w0 : 0 < w) (w9 : w ≤ 40) (h0' : 0 < h') (h9' : h' ≤ 40) (w0' : 0 < w') (w9' : w' ≤ 40) :
    WCio m__law_little 13 d [lstS (tab h w T), .int h', .int w'] fun b r d' => b = true ∧ (∃ L, r = lstS (tab h' w' L) ∧ SgT h' w' L) ∧ PoolN (n + 8 + h' * w') d' := by
  have hhw : h' * w' ≤ 40 * 40 := Nat.mul_le_mul h9' w9'
  refine wcio_of ?_
  unfold m__law_little
  repeat (walk_at "ev1")
  rw [List.length_map, tab_len]
  refine (draw_ok hp (by omega) (by omega) (by omega)).mono fun b r d2 hh => ?_
  obtain ⟨rfl, ⟨at0, rfl, hat⟩, hp⟩ := hh
  walk_at "ev0"
  repeat (walk_at "ev1")
  refine wo_ixL (j := 0) (tabS_get h0) rfl ?_
  repeat (walk_at "ev1")
  refine wo_lenS txt_len (by unfold sizeLine; omega) ?_
  repeat (walk_at "ev1")
  refine (draw_ok hp (by omega) (by omega) (by omega)).mono fun b r d3 hh => ?_
  obtain ⟨rfl, ⟨al, rfl, hal⟩, hp⟩ := hh
  walk_at "ev0"
  repeat (walk_at "ev1")
  refine (draw_ok hp (by omega) (by omega) (by omega)).mono fun b r d4 hh => ?_
  obtain ⟨rfl, ⟨x, rfl, hx⟩, hp⟩ := hh
  walk_at "ev0"
  repeat (walk_at "ev1")
  obtain ⟨free, ef, hf⟩ := free5 (x := x) (by omega)
  refine wo_ixL ef rfl ?_
  walk_at "ev0"
  repeat (walk_at "ev1")
  walk_at "ev0"
  refine ws_range (fun i g => ∃ p L o8 o9 o10, g = [.io p, .im (lstS (tab h w T)), .im (.int h'), .im (.int w'), .im (.int at0), .im (.int al), .im (.int free), .mu (lstS (tab i w' L)), opt o8, opt o9, opt o10, .no, .no] ∧ SgT i w' L ∧ PoolN (n + 3 + i * w') p)
    (by omega) ⟨d4, fun _ _ => 0, none, none, none, rfl, (fun i j hi => by omega), by rw [Nat.zero_mul]; exact hp⟩ (fun i g hi hv => ?_) fun g hv => ?_
  · clear hp
    obtain ⟨p, L, o8, o9, o10, rfl, hL, hp⟩ := hv
    have hiw : i * w' + w' ≤ h' * w' := by rw [← Nat.succ_mul]; exact Nat.mul_le_mul_right w' hi
    repeat (walk_at "ev1")
    rw [List.length_map, tab_len]
    repeat (walk_at "ev1")
    have hr : (at0 + i) % h < h := Nat.mod_lt _ h0
    refine wo_ixL (j := (at0 + i) % h) (tabS_get hr) rfl ?_
    walk_at "ev0"
    repeat (walk_at "ev1")
    walk_at "ev0"
    refine wl_pureR (fun j => .str (sg (T ((at0 + i) % h) ((al + j) % w)))) (by omega) rfl (show 11 < 13 by decide) (fun j hj => ?_) ?_
    · repeat (walk_at "ev1")
      refine wo_lenS txt_len (by unfold sizeLine; omega) ?_
      repeat (walk_at "ev1")
      refine wo_ixS (j := (al + j) % w) (txt_get (Nat.mod_lt _ w0)) (by rw [txt_len]; unfold sizeLine; omega) rfl ?_
      exact ⟨rfl, rfl⟩
    repeat (walk_at "ev1")
    obtain ⟨ds, eds, hdl, hds⟩ : ∃ ds : List Nat, ((List.range w').map fun j => D.str (sg (T ((at0 + i) % h) ((al + j) % w)))) = (ds.map sg).map D.str ∧ ds.length = w' ∧ ∀ c ∈ ds, 33 ≤ c ∧ c ≤ 126 :=
      ⟨(List.range w').map fun j => T ((at0 + i) % h) ((al + j) % w), by rw [List.map_map, List.map_map]; rfl, by rw [List.length_map, List.length_range], fun c hc => by
        obtain ⟨j, _, rfl⟩ := List.mem_map.mp hc
        exact (hT _ _ hr (Nat.mod_lt _ w0)).1⟩
    rw [eds]
    walk_at "ev0"
    refine iteb (fun hy => ?_) fun hy => ?_
    · have hy := of_decide_eq_true hy
      repeat (walk_at "ev1")
      walk_at "ev0"
      refine comp_items (fun j acc g => ∃ p, ∃ es : List Nat, acc = (es.map sg).map D.str ∧ es.length = j ∧ (∀ c ∈ es, 33 ≤ c ∧ c ≤ 126) ∧ g = [.io p, .im (lstS (tab h w T)), .im (.int h'), .im (.int w'), .im (.int at0), .im (.int al), .im (.int free), .mu (lstS (tab i w' L)), .im (.int i), .im (.str (txt w (T ((at0 + i) % h)))), .im (.lst ((ds.map sg).map .str)), .no, .no] ∧ PoolN (n + 3 + i * w' + j) p)
        ⟨p, [], rfl, rfl, (fun c hc => by cases hc), rfl, hp⟩ (fun j d acc g hj hv => ?_) fun acc g2 hv => ?_
      · clear hp
        obtain ⟨p, es, rfl, hes, hec, rfl, hp⟩ := hv
        have hjl : j < ds.length := by
          have z := (List.getElem?_eq_some_iff.mp hj).1
          rw [List.length_map, List.length_map] at z
          exact z
        have hget : ((ds.map sg).map D.str)[j]? = some (.str (sg ds[j])) := by rw [List.getElem?_map, List.getElem?_map, List.getElem?_eq_getElem hjl]; rfl
        have e := Option.some.inj (hget.symm.trans hj)
        subst e
        have hc := hds _ (List.getElem_mem hjl)
        generalize ds[j] = c at hc
        clear hj hget
        repeat (walk_at "ev1")
        walk_at "ev0"
        refine (draw_ok hp (by omega) (by omega) (by omega)).mono fun b r d3 hh => ?_
        obtain ⟨rfl, ⟨x, rfl, hx⟩, hp⟩ := hh
        repeat (walk_at "ev1")
        have fin : ∀ c, 33 ≤ c ∧ c ≤ 126 → ∀ x ∈ es ++ [c], 33 ≤ x ∧ x ≤ 126 := fun c hc x hx => by
          rcases List.mem_append.mp hx with h | h
          · exact hec x h
          · rw [List.mem_singleton.mp h]; exact hc
        have hz : ((es.map sg).map D.str).length < sizeLine := by
          simp only [List.length_map]
          unfold sizeLine
          omega
        by_cases e : (x : Int) = 0
        · rw [decide_eq_true e]
          repeat (walk_at "ev1")
          exact ⟨⟨hz, rfl⟩, _, es ++ [63], sg_snoc (c := 63), by rw [List.length_append, hes]; rfl, fin _ (by omega), rfl, hp⟩
        · rw [decide_eq_false e]
          repeat (walk_at "ev1")
          exact ⟨⟨hz, rfl⟩, _, es ++ [c], sg_snoc, by rw [List.length_append, hes]; rfl, fin _ hc, rfl, hp⟩
      · clear hp
        obtain ⟨p, es, rfl, hes, hec, rfl, hp⟩ := hv
        rw [List.length_map, List.length_map, hdl] at hes hp
        refine ⟨rfl, ?_⟩
        repeat (walk_at "ev1")
        walk_at "ev0"
        repeat (walk_at "ev1")
        refine wo_join (cs := es) (by omega) ?_
        repeat (walk_at "ev1")
        refine ⟨_, _, app_at (by rw [List.length_map, tab_len]; unfold sizeLine; omega), ?_⟩
        rw [txt_of hes, lst_snoc, rows_snoc]
        repeat (walk_at "ev1")
        exact ⟨p, _, some _, some _, some _, rfl, rows_sgP (P := fun c => 33 ≤ c ∧ c ≤ 126) hL fun b hb => getD_P hec (by omega), by rw [Nat.succ_mul, ← Nat.add_assoc]; exact hp⟩
    · repeat (walk_at "ev1")
      refine wo_join (cs := ds) (by omega) ?_
      repeat (walk_at "ev1")
      refine ⟨_, _, app_at (by rw [List.length_map, tab_len]; unfold sizeLine; omega), ?_⟩
      rw [txt_of hdl, lst_snoc, rows_snoc]
      repeat (walk_at "ev1")
      exact ⟨p, _, some _, some _, some _, rfl, rows_sgP (P := fun c => 33 ≤ c ∧ c ≤ 126) hL fun b hb => getD_P hds (by omega), PoolN.le hp (by rw [Nat.succ_mul]; omega)⟩
  · clear hp
    obtain ⟨p, L, o8, o9, o10, rfl, hL, hp⟩ := hv
    repeat (walk_at "ev1")
    try (walk_at "ev0")
    refine (draw_ok hp (by omega) (by omega) (by omega)).mono fun b r d3 hh => ?_
    obtain ⟨rfl, ⟨x, rfl, hx⟩, hp⟩ := hh
    try (walk_at "ev0")
    repeat (walk_at "ev1")
    refine iteb (fun hy => ?_) fun hy => ?_
    · repeat (walk_at "ev1")
      refine (draw_ok hp (by omega) (by omega) (by omega)).mono fun b r d5 hh => ?_
      obtain ⟨rfl, ⟨r, rfl, hr⟩, hp⟩ := hh
      walk_at "ev0"
      repeat (walk_at "ev1")
      refine (draw_ok hp (by omega) (by omega) (by omega)).mono fun b _ d6 hh => ?_
      obtain ⟨rfl, ⟨c, rfl, hc⟩, hp⟩ := hh
      walk_at "ev0"
      repeat (walk_at "ev1")
      refine (signs_ok (many := 1) hp (by omega) (by decide) (by decide)).mono fun b _ d7 hh => ?_
      obtain ⟨rfl, ⟨cs, rfl, hcl, hcs⟩, hp⟩ := hh
      walk_at "ev0"
      repeat (walk_at "ev1")
      obtain ⟨sgn, rfl⟩ : ∃ c, cs = [c] := by
        match cs, hcl with
        | [c], _ => exact ⟨c, rfl⟩
      have hsgn := (hcs sgn (by simp)).1
      refine wo_ixL (j := 0) (d := .str (sg sgn)) rfl rfl ?_
      have hr : r < h' := by omega
      have hc : c < w' := by omega
      walk_at "ev0"
      repeat (walk_at "ev1")
      refine wo_ixL (tabS_get hr) rfl ?_
      repeat (walk_at "ev1")
      refine wo_mk (if_pos (by rw [txt_len]; unfold sizeLine; omega)) ?_
      have l1 : (cutS (txt w' (L r)) none (some (c : Int))).length ≤ w' := Nat.le_trans (cutS_length _ _ _) (Nat.le_of_eq txt_len)
      have l2 : (cutS (txt w' (L r)) (some ((c + 1 : Nat) : Int)) none).length ≤ w' := Nat.le_trans (cutS_length _ _ _) (Nat.le_of_eq txt_len)
      repeat (walk_at "ev1")
      refine wo_addS (by show _ + 1 ≤ sizeLine; unfold sizeLine; omega) ?_
      repeat (walk_at "ev1")
      refine wo_ixL (tabS_get hr) rfl ?_
      repeat (walk_at "ev1")
      rw [show (c : Int) + 1 = ((c + 1 : Nat) : Int) by omega]
      refine wo_mk (if_pos (by rw [txt_len]; unfold sizeLine; omega)) ?_
      refine wo_addS (by show (cutS (txt w' (L r)) none (some (c : Int)) ++ sg sgn).cps.size + _ ≤ sizeLine; show ((cutS (txt w' (L r)) none (some (c : Int))).cps ++ #[sgn]).size + _ ≤ sizeLine; rw [Array.size_append]; show (cutS (txt w' (L r)) none (some (c : Int))).length + 1 + _ ≤ _; unfold sizeLine; omega) ?_
      rw [put_sign hc]
      repeat (walk_at "ev1")
      refine ⟨_, set_at (by rw [List.length_map, tab_len]; exact hr), ?_⟩
      rw [tab_set hr]
      repeat (walk_at "ev1")
      refine ⟨⟨_, rfl, fun a b ha hb => ?_⟩, PoolN.le hp (by omega)⟩
      show 33 ≤ (if a = r then (if b = c then sgn else L r b) else L a b) ∧ (if a = r then (if b = c then sgn else L r b) else L a b) ≤ 126
      split
      · split
        · exact hsgn
        · exact hL r b hr hb
      · exact hL a b ha hb
    · repeat (walk_at "ev1")
      exact ⟨⟨L, rfl, hL⟩, PoolN.le hp (by omega)⟩
end K26
set_option Elab.async false
set_option linter.all false
set_option maxRecDepth 100000
set_option maxHeartbeats 4000000
namespace K26
open PySem PySem.Spec PyProof.Rows L2 TL N7
local macro_rules | `(tactic| walk_at "ev1") => `(tactic| first
  | with_reducible refine ws_seq.mpr ?_
  | with_reducible refine ws_next.mpr ?_
  | with_reducible refine ws_set ?_
  | with_reducible refine ws_setMu ?_
  | with_reducible refine ws_expr ?_
  | with_reducible refine ws_ret ?_
  | ((with_reducible refine ws_retMu ?_); refine ⟨_, rfl, ?_⟩)
  | with_reducible refine ws_if ?_
  | with_reducible refine ws_setIx ?_
  | with_reducible refine ws_asg ?_
  | with_reducible refine ws_for ?_
  | ((with_reducible refine ws_demote ?_); refine ⟨_, rfl, ?_⟩)
  | ((with_reducible refine we_var.mpr ?_); refine ⟨_, rfl, ?_⟩)
  | with_reducible refine we_c.mpr ?_
  | with_reducible refine we_bin.mpr ?_
  | with_reducible refine we_un.mpr ?_
  | with_reducible refine we_bool' ?_
  | with_reducible refine we_andT.mpr ?_
  | with_reducible refine we_orT.mpr ?_
  | with_reducible refine we_notT.mpr ?_
  | with_reducible refine we_andV.mpr ?_
  | with_reducible refine we_orV.mpr ?_
  | with_reducible refine we_notV.mpr ?_
  | with_reducible refine we_if.mpr ?_
  | with_reducible refine we_lst.mpr ?_
  | with_reducible refine we_tup.mpr ?_
  | with_reducible refine we_B.mpr ?_
  | with_reducible refine we_M.mpr ?_
  | with_reducible refine we_call.mpr ?_
  | ((with_reducible refine we_callIo.mpr ?_); refine ⟨⟨_, rfl⟩, ?_⟩)
  | ((with_reducible refine we_frz.mpr ?_); refine ⟨_, rfl, ?_⟩)
  | ((with_reducible refine we_rd.mpr ?_); refine ⟨⟨_, rfl⟩, ?_⟩)
  | ((with_reducible refine we_rd1.mpr ?_); refine ⟨_, rfl, ?_⟩)
  | ((with_reducible refine we_mut.mpr ?_); refine ⟨⟨_, rfl, rfl⟩, ?_⟩)
  | with_reducible refine we_chain.mpr ?_
  | with_reducible refine we_comp ?_
  | with_reducible refine we_sl ?_
  | with_reducible refine wpo_none ?_
  | with_reducible refine wpo_some ?_
  | with_reducible refine wa_nil.mpr ?_
  | with_reducible refine wa_cons.mpr ?_
  | with_reducible refine wa_items.mpr ?_
  | with_reducible refine wa_of' ?_
  | with_reducible refine wt_bl.mpr ?_
  | with_reducible refine wo_eqI ?_
  | with_reducible refine wo_neI ?_
  | with_reducible refine wo_eqB ?_
  | with_reducible refine wo_neB ?_
  | (with_reducible refine wo_fdiv (by omega) ?_)
  | (with_reducible refine wo_mod (by omega) ?_)
  | ((with_reducible refine wo_mul ?_ ?_); (focus first | (left; omega) | (right; omega)))
  | (refine wo_mk (n := _) (z := _) rfl ?_)
  | with_reducible refine ite_t rfl ?_
  | with_reducible refine ite_f (by decide) ?_
  | refine ⟨_, rfl, ?_⟩
  | refine ⟨rfl, ?_⟩
  | refine ⟨⟨rfl, rfl⟩, ?_⟩
  | refine ⟨⟨_, rfl⟩, ?_⟩
  | refine ⟨by decide, ?_⟩
  | refine ⟨by simp only [List.length_cons, List.length_nil]; decide, ?_⟩
  | refine ⟨by simp only [List.set_cons_succ, List.set_cons_zero, free_suc, free_opt, free_optM, free_im, free_mu, free_no, and_self], ?_⟩
  | refine ⟨_, put_at (by simp only [List.set_cons_succ, List.set_cons_zero, free_suc, free_opt, free_optM, free_im, free_mu, free_no, and_self]), ?_⟩
  | refine ⟨_, gtup2 (by simp only [List.set_cons_succ, List.set_cons_zero, free_suc, free_opt, free_optM, free_im, free_mu, free_no, and_self]) (by simp only [List.set_cons_succ, List.set_cons_zero, free_suc, free_opt, free_optM, free_im, free_mu, free_no, and_self]), ?_⟩
  | with_reducible exact rfl)
local macro_rules | `(tactic| walk_at "ev0") => `(tactic| simp only [argsG, List.map_cons, List.map_nil, List.length_cons, List.length_nil, Nat.reduceAdd, Nat.reduceSub, List.replicate_succ, List.replicate_zero, List.cons_append, List.nil_append, List.set_cons_succ, List.set_cons_zero])
local macro_rules | `(tactic| walk_at "ev2") => `(tactic| first
  | with_reducible refine ws_par ?_
  | with_reducible refine we_disp ?_
  | with_reducible refine we_dnew ?_
  | with_reducible refine wa_pairs0 ?_
  | with_reducible refine wa_pairs1 ?_
  | with_reducible refine wo_ixTab0 (by omega) ?_
  | with_reducible refine wo_lenTxt (by omega) ?_
  | with_reducible refine wo_lenTab ?_
  | refine ⟨_, _, rfl, ?_⟩
  | walk_at "ev1")
theorem ws_mid {F : MS} {g : G} {P : Rt → Prop} (I : G → Prop) (h : WS F g fun r => match r with | .nx g1 => I g1 | _ => False) (k : ∀ g1, I g1 → P (.nx g1)) : WS F g P := by
  obtain ⟨r, e, p⟩ := h
  cases r with
  | nx g1 => exact ⟨_, e, k g1 p⟩
  | _ => cases p
theorem ws_midR {F : MS} {g : G} {P : Rt → Prop} (I : G → Prop) (h : WS F g fun r => match r with | .nx g1 => I g1 | r => P r) (k : ∀ g1, I g1 → P (.nx g1)) : WS F g P := by
  obtain ⟨r, e, p⟩ := h
  cases r with
  | nx g1 => exact ⟨_, e, k g1 p⟩
  | _ => exact ⟨_, e, p⟩
local macro_rules | `(tactic| walk_at "to") => `(tactic| ((fail_if_success (with_reducible refine ws_if ?_)); walk_at "ev1"))
theorem refused_n {a b d : D} (h : WCX m_near_cells 6 [a, b, d] "NoNumber") : WC m__law_refused 6 [.int 1, a, b, d] fun n r => r = .int 2 := by
  refine wc_of ?_
  unfold m__law_refused
  repeat (walk_at "ev2")
  refine ws_try ?_
  refine ws_ifW ?_
  repeat (first | (with_reducible refine ws_exprW ?_) | walk_at "ev2")
  refine wce_x h ⟨⟨by decide, rfl⟩, ?_⟩
  repeat (walk_at "ev2")
  exact congrArg D.int (by decide +kernel)
theorem refused_c {a b d : D} (h : WCX m_unlike_at 3 [a, b, d] "NoCell") : WC m__law_refused 6 [.int 0, a, b, d] fun n r => r = .int 1 := by
  refine wc_of ?_
  unfold m__law_refused
  repeat (walk_at "ev2")
  refine ws_try ?_
  refine ws_ifW ?_
  repeat (first | (with_reducible refine ws_exprW ?_) | walk_at "ev2")
  refine wce_x h ⟨⟨by decide, rfl⟩, ?_⟩
  repeat (walk_at "ev2")
  exact congrArg D.int (by decide +kernel)
theorem wo_ixLast {ds : List D} {d : D} {P : Bool → D → Prop} (h : ds[ds.length - 1]? = some d) (h0 : 0 < ds.length) (p : P false d) : WO (ixD (.lst ds) (.int (-1))) P := by
  refine ⟨_, _, ?_, p⟩
  have e : atI ds (-1) = some d := by
    unfold atI
    have : ixN ds.length (-1) = some (ds.length - 1) := by
      unfold ixN
      rw [if_neg (by decide), if_pos (by omega)]
      congr 1
      omega
    rw [this]
    exact h
  simp only [ixD, e]
section
variable {h w h' w' : Nat} {T L : Nat → Nat → Nat}
theorem pyL_nD : ∀ ps : List (Nat × Nat), pyL (ps.map (nD h' w' T L)) = some (ps.map fun p => .tuple [.tuple [.int p.1, .int p.2], .int (num h' w' T L p)])
  | [] => rfl
  | p :: ps => by simp only [List.map_cons, pyL, pyL_nD ps, nD, cD, py]
theorem shaped_nD (ps : List (Nat × Nat)) : SeqAt.shaped (.list (ps.map fun p => PyData.tuple [.tuple [.int p.1, .int p.2], .int (num h' w' T L p)])) = true := by
  have h1 : PyData.canLayAll0 (ps.map fun p => PyData.tuple [.tuple [.int p.1, .int p.2], .int (num h' w' T L p)]) = true ∧ PyData.depthAll (ps.map fun p => PyData.tuple [.tuple [.int p.1, .int p.2], .int (num h' w' T L p)]) ≤ 2 := by
    induction ps with
    | nil => exact ⟨by rw [List.map_nil, PyData.canLayAll0], by rw [List.map_nil, PyData.depthAll]; decide⟩
    | cons p ps ih =>
      refine ⟨?_, ?_⟩
      · rw [List.map_cons, PyData.canLayAll0, ih.1]
        simp [PyData.canLay0, PyData.canLayAll0]
      · rw [List.map_cons, PyData.depthAll]
        have := ih.2
        simp [PyData.depth, PyData.depthAll]
        omega
  unfold SeqAt.shaped
  rw [PyData.canLay0, PyData.depth, h1.1, Bool.true_and]
  have := h1.2
  exact decide_eq_true (by omega)
theorem eq_nil (ps : List (Nat × Nat)) : eqB (.lst (ps.map (nD h' w' T L))) (.lst []) = some (decide (ps = [])) := by
  have hpy : py (.lst (ps.map (nD h' w' T L))) = some (.list (ps.map fun p => PyData.tuple [.tuple [.int p.1, .int p.2], .int (num h' w' T L p)])) := by simp only [py, pyL_nD]
  rw [eqB_of2 hpy (q := .list []) rfl (shaped_nD ps) (by decide +kernel)]
  cases ps with
  | nil => rfl
  | cons p ps =>
    rw [decide_eq_false (by simp)]
    rfl
theorem some_ok {n far : Nat} {p : D} {ps : List (Nat × Nat)} (hp : PoolN n p) (hn : n < 900000) (hz : ps.length ≤ 10000) : WCio m__law_some 5 p [.lst (ps.map (nD h' w' T L)), .int far] fun b r d' => (∃ qs : List (Nat × Nat), r = .lst (qs.map (nD h' w' T L)) ∧ (∀ q ∈ qs, q ∈ ps) ∧ qs.length ≤ 10000) ∧ PoolN (n + 4) d' := by
  refine wcio_of ?_
  unfold m__law_some
  repeat (walk_at "to")
  refine ws_midR (fun g => g = [.io p, .im (.lst (ps.map (nD h' w' T L))), .im (.int far), .no, .no] ∧ ps ≠ []) ?_ fun g hg => ?_
  · repeat (walk_at "ev1")
    refine iteb (fun hy => ?_) fun hy => ?_
    · repeat (walk_at "ev1")
      exact ⟨⟨ps, rfl, fun q h => h, hz⟩, hp.le (by omega)⟩
    · repeat (walk_at "ev1")
      refine wo_eq (eq_nil ps) ?_
      repeat (walk_at "ev1")
      refine iteb (fun hy => ?_) fun hy => ?_
      · repeat (walk_at "ev1")
        exact ⟨⟨ps, rfl, fun q h => h, hz⟩, hp.le (by omega)⟩
      · repeat (walk_at "ev1")
        exact of_decide_eq_false hy
  obtain ⟨rfl, h0⟩ := hg
  have hl : 0 < ps.length := List.length_pos_iff.mpr h0
  have g1 : ∀ j (hj : j < ps.length), (ps.map (nD h' w' T L))[j]? = some (nD h' w' T L ps[j]) := fun j hj => by rw [List.getElem?_map, List.getElem?_eq_getElem hj]; rfl
  repeat (walk_at "ev1")
  refine wo_ixL (g1 0 hl) rfl ?_
  repeat (walk_at "ev1")
  refine wo_ixLast (d := nD h' w' T L (ps[ps.length - 1]'(by omega))) (by rw [List.length_map]; exact g1 _ _) (by rw [List.length_map]; exact hl) ?_
  repeat (walk_at "ev1")
  try (walk_at "ev0")
  refine ws_range (n := 4) (fun k g => ∃ p qs o4, g = [.io p, .im (.lst (ps.map (nD h' w' T L))), .im (.int far), .mu (.lst (qs.map (nD h' w' T L))), opt o4] ∧ (∀ q ∈ qs, q ∈ ps) ∧ qs.length = k + 2 ∧ PoolN (n + k) p) (by decide)
    ⟨p, [ps[0], ps[ps.length - 1]'(by omega)], none, rfl, (fun q hq => by
      rcases List.mem_cons.mp hq with rfl | hq
      · exact List.getElem_mem _
      · rw [List.mem_singleton.mp hq]; exact List.getElem_mem _), rfl, hp⟩ (fun k g hk hv => ?_) fun g hv => ?_
  · obtain ⟨p, qs, o4, rfl, hq, hql, hp⟩ := hv
    repeat (walk_at "ev1")
    rw [List.length_map]
    refine (draw_ok hp (by omega) (by omega) (by omega)).mono fun b r p2 hh => ?_
    obtain ⟨rfl, ⟨x, rfl, hx⟩, hp⟩ := hh
    have hx : x < ps.length := by omega
    repeat (walk_at "ev1")
    refine wo_ixL (g1 x hx) rfl ?_
    repeat (walk_at "ev1")
    refine ⟨_, _, app_at (by rw [List.length_map]; unfold sizeLine; omega), ?_⟩
    rw [show qs.map (nD h' w' T L) ++ [nD h' w' T L ps[x]] = (qs ++ [ps[x]]).map (nD h' w' T L) by rw [List.map_append]; rfl]
    repeat (walk_at "ev1")
    refine ⟨p2, qs ++ [ps[x]], some _, rfl, (fun q hm => ?_), by rw [List.length_append, hql]; rfl, hp⟩
    rcases List.mem_append.mp hm with hm | hm
    · exact hq q hm
    · rw [List.mem_singleton.mp hm]; exact List.getElem_mem _
  · obtain ⟨p, qs, o4, rfl, hq, hql, hp⟩ := hv
    repeat (walk_at "ev1")
    exact ⟨⟨qs, rfl, hq, by omega⟩, hp⟩
theorem repr_cells (ps : List (Nat × Nat)) (hz : ps.length ≤ 10000) (hb : ∀ p ∈ ps, p.1 < 1000 ∧ p.2 < 1000) : okTh (ps.length * 83) 2 (.lst (ps.map cD)) := by
  have : okTh ((ps.map cD).length * (82 + 1)) 2 (.lst (ps.map cD)) := th_lst (W := 82) (K := 1) fun e he => by
    obtain ⟨p, hp, rfl⟩ := List.mem_map.mp he
    have b := hb p hp
    refine (th_tup (W := 40) (K := 0) (ds := [.int p.1, .int p.2]) fun e he => ?_).mono (by show 2 * 41 ≤ 82; decide) (by omega)
    rcases List.mem_cons.mp he with rfl | he
    · exact th_int (by omega)
    · rw [List.mem_singleton.mp he]; exact th_int (by omega)
  rw [List.length_map] at this
  exact this
theorem near_right {n most few : Nat} {p : D} (h0 : 0 < h) (w0 : 0 < w) (h0' : 0 < h') (w0' : 0 < w') (h9 : h < 100) (w9 : w < 100) (h9' : h' < 100) (w9' : w' < 100) (hT : GT h w T) (hL : SgT h' w' L) (hp : PoolN n p) (hn : n < 900000) (hm : most < 10000) :
    WCio m__law_near_right 13 p [.lst [lstS (tab h w T), lstS (tab h' w' L)], .lst ((cellsL (h + 1 - h') (w + 1 - w') tt).map (nD h' w' T L)), .int most, .int few] fun b r d' => r = .bl true := by
  have hlen : (cellsL (h + 1 - h') (w + 1 - w') tt).length ≤ 100 * 100 := Nat.le_trans cellsL_len (Nat.mul_le_mul (by omega) (by omega))
  have hin : ∀ p ∈ cellsL (h + 1 - h') (w + 1 - w') tt, p.1 < 1000 ∧ p.2 < 1000 := fun p hp => by
    have := cells_mem hp
    omega
  refine wcio_of ?_
  unfold m__law_near_right
  repeat (walk_at "ev1")
  refine (draw_big hp (by omega) (by decide) (by decide)).mono fun b r p2 hh => ?_
  clear hp
  obtain ⟨rfl, ⟨far, rfl, hfar⟩, hp⟩ := hh
  clear hfar
  repeat (walk_at "ev1")
  try (walk_at "ev0")
  refine (draw_ok hp (by omega) (by omega) (by omega)).mono fun b r p3 hh => ?_
  clear hp
  obtain ⟨rfl, ⟨x, rfl, hx⟩, hp⟩ := hh
  repeat (walk_at "ev1")
  try (walk_at "ev0")
  have hnum : ∀ d ∈ cutL ([.int x, .int 0, .int 1, .int most, .int ((most : Int) + 1), .int far] : List D) none (some (few : Int)), ∃ k : Nat, d = .int k := cut_all (G := fun d => ∃ k : Nat, d = .int k) (by
    simp only [List.forall_mem_cons]
    exact ⟨⟨x, rfl⟩, ⟨0, rfl⟩, ⟨1, rfl⟩, ⟨most, rfl⟩, ⟨most + 1, rfl⟩, ⟨far, rfl⟩, fun _ h => nomatch h⟩)
  generalize cutL ([.int x, .int 0, .int 1, .int most, .int ((most : Int) + 1), .int far] : List D) none (some (few : Int)) = ks at hnum ⊢
  generalize hps : cellsL (h + 1 - h') (w + 1 - w') tt = ps at hlen hin ⊢
  refine ws_items (fun i g => ∃ o6 o7 o8 o9, g = [.io p3, .im (.lst [lstS (tab h w T), lstS (tab h' w' L)]), .im (.lst (ps.map (nD h' w' T L))), .im (.int most), .im (.int few), .im (.int far), opt o6, opt o7, optM o8, opt o9, .no, .no, .no])
    ⟨none, none, none, none, rfl⟩ (fun i d g hi hv => ?_) fun g hv => ?_
  · obtain ⟨o6, o7, o8, o9, rfl⟩ := hv
    obtain ⟨k, rfl⟩ := hnum d (List.mem_of_getElem? hi)
    repeat (walk_at "ev1")
    try (walk_at "ev0")
    refine ws_range (n := 2) (fun a g => ∃ o7 o8 o9, g = [.io p3, .im (.lst [lstS (tab h w T), lstS (tab h' w' L)]), .im (.lst (ps.map (nD h' w' T L))), .im (.int most), .im (.int few), .im (.int far), .im (.int k), opt o7, optM o8, opt o9, .no, .no, .no]) (by decide) ⟨o7, o8, o9, rfl⟩ (fun a g ha hv => ?_) fun g hv => ?_
    · obtain ⟨o7, o8, o9, rfl⟩ := hv
      repeat (walk_at "ev1")
      try (walk_at "ev0")
      refine (near_ok (k := k) h0 w0 h0' w0' h9 w9 h9' w9' hT hL).mono fun n d hh => ?_
      rw [hps] at hh
      obtain ⟨rfl, rfl⟩ := hh
      repeat (walk_at "ev1")
      try (walk_at "ev0")
      refine comp_filterT (F := nD h' w' T L) (F' := cD) (Pt := fun p => decide (num h' w' T L p ≤ k)) (fun p => [.io p3, .im (.lst [lstS (tab h w T), lstS (tab h' w' L)]), .im (.lst (ps.map (nD h' w' T L))), .im (.int most), .im (.int few), .im (.int far), .im (.int k), .im (.int a), .mu (.lst ((ps.filter fun p => decide (num h' w' T L p ≤ k)).map cD)), opt o9, .im (cD p), .im (.int (num h' w' T L p)), .no]) rfl (by unfold sizeLine; omega) (fun p _ => rfl) (fun p => rfl) (fun p => rfl) (fun p hp => ?_) (fun p hp _ => ?_) ?_
      · refine (?_ : WE (mBool _) _ _)
        repeat (walk_at "ev1")
        exact ⟨congrArg D.bl (decide_eq_decide.mpr (by omega)), rfl⟩
      · repeat (walk_at "ev1")
      have hfl : (ps.filter fun p => decide (num h' w' T L p ≤ k)).length ≤ 10000 := Nat.le_trans (List.length_filter_le _ _) hlen
      obtain ⟨s, hs⟩ := th_repr (repr_cells (ps.filter fun p => decide (num h' w' T L p ≤ k)) hfl fun p hp => hin p (List.mem_filter.mp hp).1) rfl (by omega) (by decide)
      repeat (walk_at "ev1")
      try (walk_at "ev0")
      refine hs ?_
      repeat (walk_at "ev1")
      try (walk_at "ev0")
      refine hs ?_
      repeat (walk_at "ev1")
      try (walk_at "ev0")
      rw [decide_eq_true trivial]
      repeat (walk_at "ev1")
      try (walk_at "ev0")
      refine ⟨_, _, app_at (by rw [List.length_map]; unfold sizeLine; omega), ?_⟩
      repeat (walk_at "ev1")
      try (walk_at "ev0")
      exact ⟨some _, some _, some _, rfl⟩
    · obtain ⟨o7, o8, o9, rfl⟩ := hv
      repeat (walk_at "ev1")
      exact ⟨some _, o7, o8, o9, rfl⟩
  · obtain ⟨o6, o7, o8, o9, rfl⟩ := hv
    repeat (walk_at "ev1")
    try (walk_at "ev0")
    have hodd : ∀ d ∈ ([.int (-1), .int (0 - 1 - (far : Int)), .non, .bl true, .bl false, .str "0", .lst [.int 0]] : List D), (tyN d).isSome = true ∧ cntB d = false := by
      simp only [List.forall_mem_cons]
      exact ⟨⟨rfl, rfl⟩, ⟨rfl, decide_eq_false (by omega)⟩, ⟨rfl, rfl⟩, ⟨rfl, rfl⟩, ⟨rfl, rfl⟩, ⟨rfl, rfl⟩, ⟨rfl, rfl⟩, fun _ h => nomatch h⟩
    refine ws_items (fun i g => ∃ o12, g = [.io p3, .im (.lst [lstS (tab h w T), lstS (tab h' w' L)]), .im (.lst (ps.map (nD h' w' T L))), .im (.int most), .im (.int few), .im (.int far), opt o6, opt o7, optM o8, opt o9, .no, .no, opt o12]) ⟨none, rfl⟩ (fun i d g hi hv => ?_) fun g hv => ?_
    · obtain ⟨o12, rfl⟩ := hv
      obtain ⟨d1, d2⟩ := hodd d (List.mem_of_getElem? hi)
      repeat (walk_at "ev1")
      try (walk_at "ev0")
      refine (refused_n (near_bad h0 w0 h0' w0' h9 w9 h9' w9' hT hL d1 d2)).mono fun n r hh => ?_
      subst hh
      repeat (walk_at "ev1")
      exact ⟨some _, rfl⟩
    · obtain ⟨o12, rfl⟩ := hv
      repeat (walk_at "ev1")
theorem shaped_tup2 {p q : PyData} (h1 : PyData.canLay0 p = true) (h2 : PyData.canLay0 q = true) (d1 : p.depth ≤ 2) (d2 : q.depth ≤ 2) : SeqAt.shaped (.tuple [p, q]) = true := by
  unfold SeqAt.shaped
  rw [PyData.canLay0, PyData.canLayAll0, PyData.canLayAll0, PyData.canLayAll0, h1, h2, PyData.depth, PyData.depthAll, PyData.depthAll, PyData.depthAll]
  exact decide_eq_true (by omega)
theorem nin_some {d : D} {p : PyData} (ps : List (Nat × Nat)) (h1 : py d = some p) (h2 : SeqAt.shaped p = true) {P : Bool → D → Prop} (k : ∀ b, P false (.bl b)) : WO (ninY d (.lst (ps.map cD))) P := by
  have hs : SeqAt.shaped (.list (ps.map fun p => PyData.tuple [.int p.1, .int p.2])) = true := by
    have h1 : PyData.canLayAll0 (ps.map fun p => PyData.tuple [.int p.1, .int p.2]) = true ∧ PyData.depthAll (ps.map fun p => PyData.tuple [.int p.1, .int p.2]) ≤ 1 := by
      induction ps with
      | nil => exact ⟨by rw [List.map_nil, PyData.canLayAll0], by rw [List.map_nil, PyData.depthAll]; decide⟩
      | cons p ps ih =>
        refine ⟨?_, ?_⟩
        · rw [List.map_cons, PyData.canLayAll0, ih.1]
          simp [PyData.canLay0, PyData.canLayAll0]
        · rw [List.map_cons, PyData.depthAll]
          have := ih.2
          simp [PyData.depth, PyData.depthAll]
          omega
    unfold SeqAt.shaped
    rw [PyData.canLay0, PyData.depth, h1.1, Bool.true_and]
    have := h1.2
    exact decide_eq_true (by omega)
  have : ∃ b, inX d (.lst (ps.map cD)) = some b := by
    unfold inX
    cases e : inB d (.lst (ps.map cD)) with
    | some b => exact ⟨b, rfl⟩
    | none =>
      simp only [h1, pyL_cells]
      rw [if_pos ⟨h2, hs⟩]
      exact ⟨_, rfl⟩
  obtain ⟨b, hb⟩ := this
  refine ⟨false, .bl (!b), ?_, k _⟩
  unfold ninY
  rw [hb]
/-- an odd thing: asked about, it's no cell; whether it's among the cells, and bears a truth, can be told -/
def Odd (h w h' w' : Nat) (d : D) : Prop := (∃ p, py d = some p ∧ SeqAt.shaped p = true) ∧ BadCell h w h' w' d ∧ ∀ (p a1 a2 a3 a7 a8 : D) (o4 o5 o6 : Option D),
  ∃ b, WE (mAndT (mB isiD (aCons (mVar 9) (aCons (mC (.ob (.ty "tuple"))) aNil))) (mBool (mBin neD (mComp (iItems (mVar 9)) (putIm 10) (some (mB isiD (aCons (mVar 10) (aCons (mC (.ob (.ty "bool"))) aNil)))) (mVar 10) [10]) (mLst aNil)))) [.io p, .im a1, .im a2, .im a3, opt o4, opt o5, opt o6, .im a7, .im a8, .im d, .no]
    fun _ r g2 => r = .bl b ∧ g2 = [.io p, .im a1, .im a2, .im a3, opt o4, opt o5, opt o6, .im a7, .im a8, .im d, .no]
def boolB : D → Bool
  | .bl _ => true
  | _ => false
theorem cond_ok {xs : List D} (hx : ∀ x ∈ xs, isiD [x, .ob (.ty "bool")] = some (false, .bl (boolB x))) (hz : xs.length ≤ 10) (hb : ∃ b, eqB (.lst (xs.filter boolB)) (.lst []) = some b) : ∀ (p a1 a2 a3 a7 a8 : D) (o4 o5 o6 : Option D),
  ∃ b, WE (mAndT (mB isiD (aCons (mVar 9) (aCons (mC (.ob (.ty "tuple"))) aNil))) (mBool (mBin neD (mComp (iItems (mVar 9)) (putIm 10) (some (mB isiD (aCons (mVar 10) (aCons (mC (.ob (.ty "bool"))) aNil)))) (mVar 10) [10]) (mLst aNil)))) [.io p, .im a1, .im a2, .im a3, opt o4, opt o5, opt o6, .im a7, .im a8, .im (.tup xs), .no]
    fun _ r g2 => r = .bl b ∧ g2 = [.io p, .im a1, .im a2, .im a3, opt o4, opt o5, opt o6, .im a7, .im a8, .im (.tup xs), .no] := fun p a1 a2 a3 a7 a8 o4 o5 o6 => by
  obtain ⟨b, hb⟩ := hb
  refine ⟨!b, ?_⟩
  repeat (walk_at "ev1")
  try (walk_at "ev0")
  rw [show xs = xs.map id from (List.map_id xs).symm]
  refine comp_filterL (xs := xs) (F := id) (F' := id) (P := boolB) rfl (show 10 < 11 by decide) (by unfold sizeLine; omega) (fun x hm => ?_) (fun x hm _ => ?_) ?_
  · repeat (walk_at "ev1")
    exact wo_mk (hx x hm) ⟨rfl, rfl⟩
  · repeat (walk_at "ev1")
  · rw [List.map_id, List.map_id]
    repeat (walk_at "ev1")
    refine wo_ne hb ?_
    repeat (walk_at "ev1")
theorem odd_pair {i j : Int} (hb : BadCell h w h' w' (.tup [.int i, .int j])) : Odd h w h' w' (.tup [.int i, .int j]) :=
  ⟨⟨_, rfl, shaped_tup2 (by rw [PyData.canLay0]) (by rw [PyData.canLay0]) (by rw [PyData.depth]; decide) (by rw [PyData.depth]; decide)⟩, hb, cond_ok (by
    simp only [List.forall_mem_cons]
    exact ⟨rfl, rfl, fun _ h => nomatch h⟩) (by show 2 ≤ 10; decide) ⟨true, (eq_nil (h' := 0) (w' := 0) (T := fun _ _ => 0) (L := fun _ _ => 0) [])⟩⟩
theorem odd_c {d : D} {T : String} {p : PyData} (h1 : py d = some p) (h2 : SeqAt.shaped p = true) (hT : tyN d = some T) (hne : T ≠ "tuple") (hc : ∀ (q a1 a2 a3 a7 a8 : D) (o4 o5 o6 : Option D), WE (mB isiD (aCons (mVar 9) (aCons (mC (.ob (.ty "tuple"))) aNil))) [.io q, .im a1, .im a2, .im a3, opt o4, opt o5, opt o6, .im a7, .im a8, .im d, .no] fun _ r g2 => r = .bl false ∧ g2 = [.io q, .im a1, .im a2, .im a3, opt o4, opt o5, opt o6, .im a7, .im a8, .im d, .no]) : Odd h w h' w' d :=
  ⟨⟨p, h1, h2⟩, .inl (cell_ty hT hne), fun q a1 a2 a3 a7 a8 o4 o5 o6 => ⟨false, we_andT.mpr ((hc q a1 a2 a3 a7 a8 o4 o5 o6).mono fun n r g2 hh => by
    obtain ⟨rfl, rfl⟩ := hh
    repeat (walk_at "ev1"))⟩⟩
theorem bad_pair {i j : Int} (hn : ¬ (0 ≤ i ∧ 0 ≤ j ∧ i + h' ≤ h ∧ j + w' ≤ w)) : BadCell h w h' w' (.tup [.int i, .int j]) := by
  by_cases i0 : 0 ≤ i
  · by_cases j0 : 0 ≤ j
    · exact .inr ⟨i, j, rfl, i0, j0, fun z => hn ⟨i0, j0, z⟩⟩
    · refine .inl ((cell_2 (x := .int i) (y := .int j) rfl rfl).mono fun n r hh => ⟨hh.1, hh.2.trans ?_⟩)
      show D.bl (decide (0 ≤ i) && decide (0 ≤ j)) = _
      rw [decide_eq_false j0, Bool.and_false]
  · refine .inl ((cell_2 (x := .int i) (y := .int j) rfl rfl).mono fun n r hh => ⟨hh.1, hh.2.trans ?_⟩)
    show D.bl (decide (0 ≤ i) && decide (0 ≤ j)) = _
    rw [decide_eq_false i0, Bool.false_and]
theorem odd_two {x y : D} {p q : PyData} (px : py x = some p) (py' : py y = some q) (h1 : PyData.canLay0 p = true) (h2 : PyData.canLay0 q = true) (d1 : p.depth ≤ 2) (d2 : q.depth ≤ 2) (tx : (tyN x).isSome = true) (ty : (tyN y).isSome = true) (hb : (cntB x && cntB y) = false)
    (ix : isiD [x, .ob (.ty "bool")] = some (false, .bl (boolB x))) (iy : isiD [y, .ob (.ty "bool")] = some (false, .bl (boolB y))) (he : ∃ b, eqB (.lst ([x, y].filter boolB)) (.lst []) = some b) : Odd h w h' w' (.tup [x, y]) := by
  refine ⟨⟨.tuple [p, q], by simp only [py, pyL, px, py'], shaped_tup2 h1 h2 d1 d2⟩, .inl ((cell_2 tx ty).mono fun n r hh => ⟨hh.1, hh.2.trans (by rw [hb])⟩), cond_ok (by
    simp only [List.forall_mem_cons]
    exact ⟨ix, iy, fun _ h => nomatch h⟩) (by show 2 ≤ 10; decide) he⟩
theorem eq_bl1 (b : Bool) : eqB (.lst [.bl b]) (.lst []) = some false := by
  rw [eqB_of2 (p := .list [.bool b]) (q := .list []) rfl rfl (by unfold SeqAt.shaped; simp [PyData.canLay0, PyData.canLayAll0, PyData.depth, PyData.depthAll]) (by decide +kernel)]
  rfl
theorem eq_bl0 : eqB (.lst []) (.lst []) = some true := eq_nil (h' := 0) (w' := 0) (T := fun _ _ => 0) (L := fun _ _ => 0) []
theorem odds (far : Nat) (h0 : 0 < h) (w0 : 0 < w) (h0' : 0 < h') (w0' : 0 < w') (h9 : h < 50) (w9 : w < 50) (h9' : h' < 100) (w9' : w' < 100) : ∀ d ∈ ([.tup [.int (-1), .int 0], .tup [.int 0, .int (-1)], .tup [.int h, .int 0], .tup [.int 0, .int w], .tup [.int ((far : Int) + 50), .int 0], .tup [.int 0, .int (0 - 1 - (far : Int))],
    .tup [.int ((h : Int) - h' + 1), .int 0], .tup [.int 0, .int ((w : Int) - w' + 1)], .non, .tup [.int 0], .tup [.int 0, .int 0, .int 0], .lst [.int 0, .int 0], .tup [.bl true, .int 0], .tup [.int 0, .bl false], .tup [.str "0", .int 0], .str "00", .int 5, .tup [.non, .int 0], .tup [.tup [.int 0, .int 0], .int 0],
    .tup [.int 0, .non], .tup [.int 0, .str "0"], .tup [.int 0, .tup [.int 0]]] : List D), Odd h w h' w' d := by
  have c0 : ∀ {i : Int}, PyData.canLay0 (.int i) = true := by intro i; rw [PyData.canLay0]
  have l0 : ∀ {i : Int}, (PyData.int i).depth ≤ 2 := by intro i; rw [PyData.depth]; decide
  have s0 : PyData.canLay0 (.str "0") = true := by decide +kernel
  simp only [List.forall_mem_cons]
  refine ⟨odd_pair (bad_pair (by omega)), odd_pair (bad_pair (by omega)), odd_pair (bad_pair (by omega)), odd_pair (bad_pair (by omega)), odd_pair (bad_pair (by omega)), odd_pair (bad_pair (by omega)), odd_pair (bad_pair (by omega)), odd_pair (bad_pair (by omega)),
    ?_, ?_, ?_, ?_, ?_, ?_, ?_, ?_, ?_, ?_, ?_, ?_, ?_, ?_, fun _ h => nomatch h⟩
  · exact odd_c (p := .none) rfl (by decide +kernel) rfl (by decide) fun q a1 a2 a3 a7 a8 o4 o5 o6 => by repeat (walk_at "ev1")
  · exact ⟨⟨_, rfl, by decide +kernel⟩, .inl cell_1, cond_ok (by simp only [List.forall_mem_cons]; exact ⟨rfl, fun _ h => nomatch h⟩) (by show 1 ≤ 10; decide) ⟨_, eq_bl0⟩⟩
  · exact ⟨⟨_, rfl, by decide +kernel⟩, .inl cell_3, cond_ok (by simp only [List.forall_mem_cons]; exact ⟨rfl, rfl, rfl, fun _ h => nomatch h⟩) (by show 3 ≤ 10; decide) ⟨_, eq_bl0⟩⟩
  · exact odd_c (p := .list [.int 0, .int 0]) rfl (by decide +kernel) rfl (by decide) fun q a1 a2 a3 a7 a8 o4 o5 o6 => by repeat (walk_at "ev1")
  · exact odd_two (p := .bool true) (q := .int 0) rfl rfl (by decide +kernel) c0 (by decide +kernel) l0 rfl rfl rfl rfl rfl ⟨_, eq_bl1 true⟩
  · exact odd_two (p := .int 0) (q := .bool false) rfl rfl c0 (by decide +kernel) l0 (by decide +kernel) rfl rfl rfl rfl rfl ⟨_, eq_bl1 false⟩
  · exact odd_two (p := .str "0") (q := .int 0) rfl rfl s0 c0 (by decide +kernel) l0 rfl rfl rfl rfl rfl ⟨_, eq_bl0⟩
  · exact odd_c (p := .str "00") rfl (by decide +kernel) rfl (by decide) fun q a1 a2 a3 a7 a8 o4 o5 o6 => by repeat (walk_at "ev1")
  · exact odd_c (p := .int 5) rfl (by decide +kernel) rfl (by decide) fun q a1 a2 a3 a7 a8 o4 o5 o6 => by repeat (walk_at "ev1")
  · exact odd_two (p := .none) (q := .int 0) rfl rfl (by decide +kernel) c0 (by decide +kernel) l0 rfl rfl rfl rfl rfl ⟨_, eq_bl0⟩
  · exact odd_two (p := .tuple [.int 0, .int 0]) (q := .int 0) rfl rfl (by decide +kernel) c0 (by decide +kernel) l0 rfl rfl rfl rfl rfl ⟨_, eq_bl0⟩
  · exact odd_two (p := .int 0) (q := .none) rfl rfl c0 (by decide +kernel) l0 (by decide +kernel) rfl rfl rfl rfl rfl ⟨_, eq_bl0⟩
  · exact odd_two (p := .int 0) (q := .str "0") rfl rfl c0 s0 l0 (by decide +kernel) rfl rfl rfl rfl rfl ⟨_, eq_bl0⟩
  · exact odd_two (p := .int 0) (q := .tuple [.int 0]) rfl rfl c0 (by decide +kernel) l0 (by decide +kernel) rfl rfl rfl rfl rfl ⟨_, eq_bl0⟩
theorem cells_right {n : Nat} {p : D} {qs : List (Nat × Nat)} (h0 : 0 < h) (w0 : 0 < w) (h0' : 0 < h') (w0' : 0 < w') (h9 : h < 50) (w9 : w < 50) (h9' : h' < 100) (w9' : w' < 100) (hT : GT h w T) (hL : SgT h' w' L) (hp : PoolN n p) (hn : n < 900000) (hq : ∀ q ∈ qs, q ∈ cellsL (h + 1 - h') (w + 1 - w') tt) :
    WCio m__law_cells_right 11 p [.lst [lstS (tab h w T), lstS (tab h' w' L)], .lst (qs.map (nD h' w' T L)), .lst ((cellsL (h + 1 - h') (w + 1 - w') tt).map cD)] fun b r d' => r = .bl true ∧ PoolN (n + 1) d' := by
  have hin : ∀ p ∈ qs, p.1 + h' ≤ h ∧ p.2 + w' ≤ w := fun p hp => by
    have := cells_mem (hq p hp)
    omega
  generalize cellsL (h + 1 - h') (w + 1 - w') tt = ps
  refine wcio_of ?_
  unfold m__law_cells_right
  repeat (walk_at "ev1")
  try (walk_at "ev0")
  refine ws_items (fun i g => ∃ o4 o5 o6, g = [.io p, .im (.lst [lstS (tab h w T), lstS (tab h' w' L)]), .im (.lst (qs.map (nD h' w' T L))), .im (.lst (ps.map cD)), opt o4, opt o5, opt o6, .no, .no, .no, .no]) ⟨none, none, none, rfl⟩ (fun i d g hi hv => ?_) fun g hv => ?_
  · obtain ⟨o4, o5, o6, rfl⟩ := hv
    rw [List.getElem?_map] at hi
    obtain ⟨q, hqq, rfl⟩ := Option.map_eq_some_iff.mp hi
    have hb := hin q (List.mem_of_getElem? hqq)
    repeat (walk_at "ev1")
    try (walk_at "ev0")
    refine (at_ok h0 w0 h0' w0' (by omega) (by omega) h9' w9' hT hL hb).mono fun n r hh => ?_
    obtain ⟨rfl, rfl⟩ := hh
    repeat (walk_at "ev1")
    rw [decide_eq_true rfl]
    repeat (walk_at "ev1")
    exact ⟨some _, some _, some _, rfl⟩
  · obtain ⟨o4, o5, o6, rfl⟩ := hv
    repeat (walk_at "ev1")
    try (walk_at "ev0")
    refine (draw_big hp (by omega) (by decide) (by decide)).mono fun b r p2 hh => ?_
    clear hp
    obtain ⟨rfl, ⟨far, rfl, hfar⟩, hp⟩ := hh
    clear hfar
    repeat (walk_at "ev1")
    try (walk_at "ev0")
    refine wo_ixL (j := 0) (tabS_get h0) rfl ?_
    repeat (walk_at "ev1")
    refine wo_lenS txt_len (by unfold sizeLine; omega) ?_
    repeat (walk_at "ev1")
    try (walk_at "ev0")
    refine wo_ixL (j := 0) (tabS_get h0) rfl ?_
    repeat (walk_at "ev1")
    refine wo_lenS txt_len (by unfold sizeLine; omega) ?_
    repeat (walk_at "ev1")
    try (walk_at "ev0")
    refine wo_ixL (j := 0) (tabS_get h0') rfl ?_
    repeat (walk_at "ev1")
    refine wo_lenS txt_len (by unfold sizeLine; omega) ?_
    repeat (walk_at "ev1")
    try (walk_at "ev0")
    simp only [List.length_map, tab_len]
    have O := odds (h := h) (w := w) (h' := h') (w' := w') far h0 w0 h0' w0' h9 w9 h9' w9'
    generalize ([.tup [.int (-1), .int 0], .tup [.int 0, .int (-1)], .tup [.int h, .int 0], .tup [.int 0, .int w], .tup [.int ((far : Int) + 50), .int 0], .tup [.int 0, .int (0 - 1 - (far : Int))], .tup [.int ((h : Int) - h' + 1), .int 0], .tup [.int 0, .int ((w : Int) - w' + 1)], .non, .tup [.int 0], .tup [.int 0, .int 0, .int 0], .lst [.int 0, .int 0], .tup [.bl true, .int 0], .tup [.int 0, .bl false], .tup [.str "0", .int 0], .str "00", .int 5, .tup [.non, .int 0], .tup [.tup [.int 0, .int 0], .int 0], .tup [.int 0, .non], .tup [.int 0, .str "0"], .tup [.int 0, .tup [.int 0]]] : List D) = ds at O ⊢
    have body : ∀ d, Odd h w h' w' d → ∀ (R : Rt → Prop) (a2 a3 a7 a8 : D) (o4 o5 o6 : Option D), R (.nx [.io p2, .im (.lst [lstS (tab h w T), lstS (tab h' w' L)]), .im a2, .im a3, opt o4, opt o5, opt o6, .im a7, .im a8, .im d, .no]) →
        WS (sIf (mBool (mBin neD (mCall m__law_refused 6 (aCons (mC (.int 0)) (aCons (mBin ixD (mVar 1) (mC (.int 0))) (aCons (mBin ixD (mVar 1) (mC (.int 1))) (aCons (mVar 9) aNil))))) (mC (.int 1)))) (sRet (mC (.bl false))) sNext)
          [.io p2, .im (.lst [lstS (tab h w T), lstS (tab h' w' L)]), .im a2, .im a3, opt o4, opt o5, opt o6, .im a7, .im a8, .im d, .no] R := fun d hd R a2 a3 a7 a8 o4 o5 o6 k => by
      repeat (walk_at "ev1")
      try (walk_at "ev0")
      refine (refused_c (at_bad h0 w0 h0' w0' (by omega) (by omega) h9' w9' hT hL hd.2.1)).mono fun n r hh => ?_
      subst hh
      repeat (walk_at "ev1")
      exact k
    refine ws_items (ds := ds) (fun i g => ∃ o9, g = [.io p2, .im (.lst [lstS (tab h w T), lstS (tab h' w' L)]), .im (.lst (qs.map (nD h' w' T L))), .im (.lst (ps.map cD)), opt o4, opt o5, opt o6, .im (.int far), .im (.lst ds), opt o9, .no]) ⟨none, rfl⟩ (fun i d g hi hv => ?_) fun g hv => ?_
    · obtain ⟨o9, rfl⟩ := hv
      have hd := O d (List.mem_of_getElem? hi)
      obtain ⟨⟨pd, py1, sh⟩, bad, cond⟩ := O d (List.mem_of_getElem? hi)
      refine ⟨_, put_at (by simp only [free_suc, free_opt]), ?_⟩
      try (walk_at "ev0")
      refine ws_if ?_
      repeat (walk_at "ev1")
      refine nin_some ps py1 sh fun b => ?_
      repeat (walk_at "ev1")
      refine iteb (fun hb => ?_) fun hb => ?_
      · refine wt_bl.mpr ?_
        rw [if_pos rfl]
        refine body d hd _ _ _ _ _ _ _ _ ?_
        exact ⟨some _, rfl⟩
      · obtain ⟨b2, hb2⟩ := cond p2 (.lst [lstS (tab h w T), lstS (tab h' w' L)]) (.lst (qs.map (nD h' w' T L))) (.lst (ps.map cD)) (.int far) (.lst ds) o4 o5 o6
        refine hb2.mono fun n r g2 hh => ?_
        obtain ⟨rfl, rfl⟩ := hh
        refine wt_bl.mpr ?_
        refine iteb (fun hb => ?_) fun hb => ?_
        · refine body d hd _ _ _ _ _ _ _ _ ?_
          exact ⟨some _, rfl⟩
        · repeat (walk_at "ev1")
          exact ⟨some _, rfl⟩
    · obtain ⟨o9, rfl⟩ := hv
      repeat (walk_at "ev1")
      exact hp
end
end K26
set_option Elab.async false
set_option linter.all false
set_option maxRecDepth 100000
set_option maxHeartbeats 4000000
namespace K26
open PySem PySem.Spec PyProof.Rows PySem.W L2 TL N7
local macro_rules | `(tactic| walk_at "ev1") => `(tactic| first
  | with_reducible refine ws_seq.mpr ?_
  | with_reducible refine ws_next.mpr ?_
  | with_reducible refine ws_set ?_
  | with_reducible refine ws_setMu ?_
  | with_reducible refine ws_expr ?_
  | with_reducible refine ws_ret ?_
  | ((with_reducible refine ws_retMu ?_); refine ⟨_, rfl, ?_⟩)
  | with_reducible refine ws_if ?_
  | with_reducible refine ws_setIx ?_
  | with_reducible refine ws_asg ?_
  | with_reducible refine ws_for ?_
  | ((with_reducible refine ws_demote ?_); refine ⟨_, rfl, ?_⟩)
  | ((with_reducible refine we_var.mpr ?_); refine ⟨_, rfl, ?_⟩)
  | with_reducible refine we_c.mpr ?_
  | with_reducible refine we_bin.mpr ?_
  | with_reducible refine we_un.mpr ?_
  | with_reducible refine we_bool' ?_
  | with_reducible refine we_andT.mpr ?_
  | with_reducible refine we_orT.mpr ?_
  | with_reducible refine we_notT.mpr ?_
  | with_reducible refine we_andV.mpr ?_
  | with_reducible refine we_orV.mpr ?_
  | with_reducible refine we_notV.mpr ?_
  | with_reducible refine we_if.mpr ?_
  | with_reducible refine we_lst.mpr ?_
  | with_reducible refine we_tup.mpr ?_
  | with_reducible refine we_B.mpr ?_
  | with_reducible refine we_M.mpr ?_
  | with_reducible refine we_call.mpr ?_
  | ((with_reducible refine we_callIo.mpr ?_); refine ⟨⟨_, rfl⟩, ?_⟩)
  | ((with_reducible refine we_frz.mpr ?_); refine ⟨_, rfl, ?_⟩)
  | ((with_reducible refine we_rd.mpr ?_); refine ⟨⟨_, rfl⟩, ?_⟩)
  | ((with_reducible refine we_rd1.mpr ?_); refine ⟨_, rfl, ?_⟩)
  | ((with_reducible refine we_mut.mpr ?_); refine ⟨⟨_, rfl, rfl⟩, ?_⟩)
  | with_reducible refine we_chain.mpr ?_
  | with_reducible refine we_comp ?_
  | with_reducible refine we_sl ?_
  | with_reducible refine wpo_none ?_
  | with_reducible refine wpo_some ?_
  | with_reducible refine wa_nil.mpr ?_
  | with_reducible refine wa_cons.mpr ?_
  | with_reducible refine wa_items.mpr ?_
  | with_reducible refine wa_of' ?_
  | with_reducible refine wt_bl.mpr ?_
  | with_reducible refine wo_eqI ?_
  | with_reducible refine wo_neI ?_
  | with_reducible refine wo_eqB ?_
  | with_reducible refine wo_neB ?_
  | (with_reducible refine wo_fdiv (by omega) ?_)
  | (with_reducible refine wo_mod (by omega) ?_)
  | ((with_reducible refine wo_mul ?_ ?_); (focus first | (left; omega) | (right; omega)))
  | (refine wo_mk (n := _) (z := _) rfl ?_)
  | with_reducible refine ite_t rfl ?_
  | with_reducible refine ite_f (by decide) ?_
  | refine ⟨_, rfl, ?_⟩
  | refine ⟨rfl, ?_⟩
  | refine ⟨⟨rfl, rfl⟩, ?_⟩
  | refine ⟨⟨_, rfl⟩, ?_⟩
  | refine ⟨by decide, ?_⟩
  | refine ⟨by simp only [List.length_cons, List.length_nil]; decide, ?_⟩
  | refine ⟨by simp only [List.set_cons_succ, List.set_cons_zero, free_suc, free_opt, free_optM, free_im, free_mu, free_no, and_self], ?_⟩
  | refine ⟨_, put_at (by simp only [List.set_cons_succ, List.set_cons_zero, free_suc, free_opt, free_optM, free_im, free_mu, free_no, and_self]), ?_⟩
  | refine ⟨_, gtup2 (by simp only [List.set_cons_succ, List.set_cons_zero, free_suc, free_opt, free_optM, free_im, free_mu, free_no, and_self]) (by simp only [List.set_cons_succ, List.set_cons_zero, free_suc, free_opt, free_optM, free_im, free_mu, free_no, and_self]), ?_⟩
  | with_reducible exact rfl)
local macro_rules | `(tactic| walk_at "ev0") => `(tactic| simp only [argsG, List.map_cons, List.map_nil, List.length_cons, List.length_nil, Nat.reduceAdd, Nat.reduceSub, List.replicate_succ, List.replicate_zero, List.cons_append, List.nil_append, List.set_cons_succ, List.set_cons_zero])
local macro_rules | `(tactic| walk_at "ev2") => `(tactic| first
  | with_reducible refine ws_par ?_
  | with_reducible refine we_disp ?_
  | with_reducible refine we_dnew ?_
  | with_reducible refine wa_pairs0 ?_
  | with_reducible refine wa_pairs1 ?_
  | with_reducible refine wo_ixTab0 (by omega) ?_
  | with_reducible refine wo_lenTxt (by omega) ?_
  | with_reducible refine wo_lenTab ?_
  | refine ⟨_, _, rfl, ?_⟩
  | walk_at "ev1")
local macro_rules | `(tactic| walk_at "to") => `(tactic| ((fail_if_success (with_reducible refine ws_if ?_)); walk_at "ev1"))
local macro_rules | `(tactic| walk_at "ts") => `(tactic| ((fail_if_success (with_reducible refine ws_set ?_)); walk_at "ev1"))
def TxtArgs (ds : List D) (g1 : G) (i : Nat) : Prop := ds.all txts = true ∧ free? g1 i = true
local macro_rules | `(tactic| walk_at "tx") => `(tactic| ((fail_if_success (refine ⟨(?_ : TxtArgs _ _ _), ?_⟩)); walk_at "ev1"))
theorem ws_fresh {i N : Nat} {F : MS} {fs fa : MA} {f2 f3 : MF} {g : G} {R : Rt → Prop} (h : WA fs g fun ds g1 => TxtArgs ds g1 i ∧ WC F N ds fun _ d => WE f2 (g1.set i (.im d)) fun _ b2 g2 => b2 = .bl false ∧ WE f3 g2 fun _ b3 g3 =>
    (b3 = .bl false ∧ R (.nx (g1.set i .no))) ∨ (b3 = .bl true ∧ freshD d = true ∧ (∃ z g4, fa g3 = some (.ok [z] g4)) ∧ R (.nx (g1.set i .no)))) : WS (sFresh i F N fs f2 f3 fa) g R := by
  obtain ⟨ds, g1, e1, hq, n, d, g', e2, n2, b2, g2, e3, rfl, n3, b3, g3, e4, h⟩ := h
  have hq : ds.all txts = true ∧ free? g1 i = true := hq
  unfold WS sFresh
  simp only [e1, if_pos hq, e2, e3, e4]
  rcases h with ⟨rfl, r⟩ | ⟨rfl, hf, ⟨z, g4, ea⟩, r⟩
  · exact ⟨_, rfl, r⟩
  · simp only [if_pos hf, ea]
    exact ⟨_, rfl, r⟩
theorem min_numB {α : Type} {ps : List α} (num : α → Nat) (h : ps ≠ []) : ∃ M : Nat, (∃ p ∈ ps, M = num p) ∧ minG [.lst (ps.map fun p => .int (num p))] = some (false, .int M) := by
  cases ps with
  | nil => exact absurd rfl h
  | cons p ps =>
    have e : pyLS ((p :: ps).map fun p => D.int (num p)) = some (.int (num p) :: ps.map fun p => PyData.int (num p)) := pyLS_maps (f := fun p => D.int (num p)) (g := fun p => PyData.int (num p)) (fun x => rfl) (p :: ps)
    have ok : minOk (PyData.int (num p) :: ps.map fun p => PyData.int (num p)) = true := by
      have := minOk_ints ((p :: ps).map fun p => (num p : Int))
      rw [List.map_map, List.map_cons] at this
      exact this
    have hm : minD (PyData.int (num p)) (ps.map fun p => PyData.int (num p)) ∈ (p :: ps).map fun p => PyData.int (num p) := minD_mem _ _
    obtain ⟨q, hq, e2⟩ := List.mem_map.mp hm
    refine ⟨num q, ⟨q, hq, rfl⟩, ?_⟩
    simp only [minG]
    rw [e]
    simp only
    rw [if_pos ok, ← e2]
    rfl
/-- what is due of the nearest cells -/
def Due (h' w' : Nat) (T L : Nat → Nat → Nat) (ps : List (Nat × Nat)) (due : D) : Prop := (ps = [] ∧ due = .non) ∨ ∃ M : Nat, ps ≠ [] ∧ M ≤ 10000 ∧ minG [.lst (ps.map fun p => .int (num h' w' T L p))] = some (false, .int M) ∧ due = .tup [.int M, .lst ((ps.filter fun p => decide (num h' w' T L p = M)).map cD)]
theorem txts_tab {h w : Nat} {T : Nat → Nat → Nat} (h0 : 0 < h) : txts (lstS (tab h w T)) = true := by
  show (!((tab h w T).map D.str).isEmpty && ((tab h w T).map D.str).all isTxt) = true
  rw [Bool.and_eq_true]
  refine ⟨?_, List.all_eq_true.mpr fun d hd => by obtain ⟨s, _, rfl⟩ := List.mem_map.mp hd; rfl⟩
  cases e : (tab h w T).map D.str with
  | nil =>
    have := congrArg List.length e
    rw [List.length_map, tab_len] at this
    exact absurd this (by show ¬ h = 0; omega)
  | cons a r => rfl
theorem wo_neZself {x : Str} {P : Bool → D → Prop} (k : P false (.bl false)) : WO (neZ (.str x) (.str x)) P := by
  refine ⟨false, .bl (!decide (x = x)), rfl, ?_⟩
  rw [decide_eq_true rfl]
  exact k
theorem pure_law : ∀ ns : List Int, ns.length ≤ 63 → ∃ n g', finD (m_law (argsG [.im (.ro ns)] 18)) = some (.rt n (.bl true) g') := by
  intro ns hns
  suffices h : WC m_law 18 [.ro ns] fun n d => d = .bl true by
    obtain ⟨n, d, g', e, rfl⟩ := h
    exact ⟨n, g', e⟩
  refine wc_of ?_
  unfold m_law
  repeat (walk_at "ev1")
  try (walk_at "ev0")
  have hn : ∃ n : Nat, (if (if (ns.length : Int) < 6 then (ns.length : Int) else 6) > 1 then if (ns.length : Int) < 6 then (ns.length : Int) else 6 else 1) = n ∧ n ≤ 6 := ⟨(if (if (ns.length : Int) < 6 then (ns.length : Int) else 6) > 1 then if (ns.length : Int) < 6 then (ns.length : Int) else 6 else 1).toNat, by split <;> split <;> omega, by split <;> split <;> omega⟩
  obtain ⟨n, en, hn⟩ := hn
  rw [en]
  refine ws_range (fun k g => ∃ o1 o2 o3 o4 o5 o6 o7 o8 o9 o10 o11 o14 o15 o17, g = [.im (.ro ns), opt o1, optM o2, opt o3, opt o4, opt o5, opt o6, opt o7, opt o8, opt o9, opt o10, opt o11, .no, .no, opt o14, opt o15, .no, opt o17]) (by omega) ⟨none, none, none, none, none, none, none, none, none, none, none, none, none, none, rfl⟩ (fun k g hk hv => ?_) fun g hv => ?_
  · obtain ⟨o1, o2, o3, o4, o5, o6, o7, o8, o9, o10, o11, o14, o15, o17, rfl⟩ := hv
    repeat (walk_at "ev1")
    refine (Sd.pool_ok (by omega) (by omega)).mono fun b pool hh => ?_
    obtain ⟨rfl, hp⟩ := hh
    try (walk_at "ev0")
    repeat (walk_at "ts")
    refine ws_mid (fun g => ∃ p, ∃ far : Nat, g = [.im (.ro ns), .im (.int k), .mu p, .im (.int far), opt o4, opt o5, opt o6, opt o7, opt o8, opt o9, opt o10, opt o11, .no, .no, opt o14, opt o15, .no, opt o17] ∧ far < 2 ∧ PoolN (61 * k + 1) p) ?_ fun g hv => ?_
    · repeat (walk_at "ev1")
      refine (draw_ok hp (by omega) (by omega) (by omega)).mono fun b r p2 hh => ?_
      clear hp
      obtain ⟨rfl, ⟨x, rfl, hx⟩, hp⟩ := hh
      repeat (walk_at "ev1")
      refine iteb (fun hy => ?_) fun hy => ?_
      · repeat (walk_at "ev1")
        refine ⟨p2, if decide ((k : Int) = 0) = true then 1 else 0, ?_, by split <;> decide, hp⟩
        cases decide ((k : Int) = 0) <;> rfl
      · repeat (walk_at "ev1")
        exact ⟨p2, 0, rfl, by decide, hp⟩
    clear hp
    obtain ⟨pool1, far, rfl, hfar, hp⟩ := hv
    repeat (walk_at "ts")
    refine ws_mid (fun g => ∃ p, ∃ wide : Nat, g = [.im (.ro ns), .im (.int k), .mu p, .im (.int far), .im (.int wide), opt o5, opt o6, opt o7, opt o8, opt o9, opt o10, opt o11, .no, .no, opt o14, opt o15, .no, opt o17] ∧ wide < 2 ∧ PoolN (61 * k + 2) p) ?_ fun g hv => ?_
    · repeat (walk_at "ev1")
      refine (draw_ok hp (by omega) (by omega) (by omega)).mono fun b r p2 hh => ?_
      clear hp
      obtain ⟨rfl, ⟨x, rfl, hx⟩, hp⟩ := hh
      repeat (walk_at "ev1")
      refine iteb (fun hy => ?_) fun hy => ?_
      · repeat (walk_at "ev1")
        refine ⟨p2, if decide ((k : Int) = 0) = true then 1 else 0, ?_, by split <;> decide, hp⟩
        cases decide ((k : Int) = 0) <;> rfl
      · repeat (walk_at "ev1")
        exact ⟨p2, 0, rfl, by decide, hp⟩
    clear hp
    obtain ⟨pool2, wide, rfl, hwide, hp⟩ := hv
    have side : ∀ {x y b : Nat}, b < 2 → x < 7 → y < 33 → ∃ z : Nat, ([.int (1 + (x : Int)), .int (8 + (y : Int))] : List D)[b]? = some (.int z) ∧ 0 < z ∧ z ≤ 40 := fun {x y b} hb hx hy => by
      rcases b with _ | _ | b
      · exact ⟨1 + x, rfl, by omega, by omega⟩
      · exact ⟨8 + y, rfl, by omega, by omega⟩
      · omega
    have five : ∀ {b : Nat}, b < 2 → ∃ z : Nat, ([.int 5, .int 12] : List D)[b]? = some (.int z) ∧ 0 < z ∧ z ≤ 12 := fun {b} hb => by
      rcases b with _ | _ | b
      · exact ⟨5, rfl, by omega, by omega⟩
      · exact ⟨12, rfl, by omega, by omega⟩
      · omega
    repeat (walk_at "ev1")
    refine (draw_ok hp (by omega) (by omega) (by omega)).mono fun b r p2 hh => ?_
    clear hp
    obtain ⟨rfl, ⟨x, rfl, hx⟩, hp⟩ := hh
    repeat (walk_at "ev1")
    refine (draw_ok hp (by omega) (by omega) (by omega)).mono fun b r p2 hh => ?_
    clear hp
    obtain ⟨rfl, ⟨y, rfl, hy⟩, hp⟩ := hh
    repeat (walk_at "ev1")
    obtain ⟨h, eh, h0, h9⟩ := side (x := x) (y := y) hfar (by omega) (by omega)
    refine wo_ixL eh rfl ?_
    clear eh hx hy x y
    repeat (walk_at "ev1")
    try (walk_at "ev0")
    refine (draw_ok hp (by omega) (by omega) (by omega)).mono fun b r p2 hh => ?_
    clear hp
    obtain ⟨rfl, ⟨x, rfl, hx⟩, hp⟩ := hh
    repeat (walk_at "ev1")
    refine (draw_ok hp (by omega) (by omega) (by omega)).mono fun b r p2 hh => ?_
    clear hp
    obtain ⟨rfl, ⟨y, rfl, hy⟩, hp⟩ := hh
    repeat (walk_at "ev1")
    obtain ⟨w, ew, w0, w9⟩ := side (x := x) (y := y) hwide (by omega) (by omega)
    refine wo_ixL ew rfl ?_
    clear ew hx hy x y
    repeat (walk_at "ev1")
    try (walk_at "ev0")
    have hhw : h * w ≤ 40 * 40 := Nat.mul_le_mul h9 w9
    refine (great_ok hp (by omega) h0 h9 w0 w9).mono fun b r p2 hh => ?_
    clear hp
    obtain ⟨rfl, ⟨T, rfl, hT⟩, hp⟩ := hh
    repeat (walk_at "ev1")
    try (walk_at "ev0")
    obtain ⟨f1, ef, f0, f9⟩ := five hfar
    refine wo_ixL ef rfl ?_
    repeat (walk_at "ev1")
    try (walk_at "ev0")
    refine (draw_ok hp (by omega) (by omega) (by omega)).mono fun b r p2 hh => ?_
    clear hp
    obtain ⟨rfl, ⟨x, rfl, hx⟩, hp⟩ := hh
    repeat (walk_at "ev1")
    obtain ⟨h', eh, h0', h9'⟩ : ∃ h' : Nat, (1 : Int) + (x : Int) = h' ∧ 0 < h' ∧ h' ≤ 12 := ⟨1 + x, by omega, by omega, by omega⟩
    rw [eh]
    clear eh hx x ef f0 f9
    obtain ⟨f2, ef, f0, f9⟩ := five hwide
    refine wo_ixL ef rfl ?_
    repeat (walk_at "ev1")
    try (walk_at "ev0")
    refine (draw_ok hp (by omega) (by omega) (by omega)).mono fun b r p2 hh => ?_
    clear hp
    obtain ⟨rfl, ⟨x, rfl, hx⟩, hp⟩ := hh
    repeat (walk_at "ev1")
    obtain ⟨w', ew, w0', w9'⟩ : ∃ w' : Nat, (1 : Int) + (x : Int) = w' ∧ 0 < w' ∧ w' ≤ 12 := ⟨1 + x, by omega, by omega, by omega⟩
    rw [ew]
    clear ew hx x ef f0 f9
    have hhw' : h' * w' ≤ 12 * 12 := Nat.mul_le_mul h9' w9'
    refine (little_ok hp (by omega) hT h0 h9 w0 w9 h0' (by omega) w0' (by omega)).mono fun b r p2 hh => ?_
    clear hp
    obtain ⟨rfl, ⟨L, rfl, hL⟩, hp⟩ := hh
    repeat (walk_at "to")
    try (walk_at "ev0")
    obtain ⟨f3, ef, hf3⟩ : ∃ f3 : Nat, (if (wide : Int) > far then (wide : Int) else far) = f3 ∧ f3 < 2 := by
      split
      · exact ⟨wide, rfl, hwide⟩
      · exact ⟨far, rfl, hfar⟩
    rw [ef]
    clear ef
    try (walk_at "ev0")
    refine (numbers_ok h0 w0 h0' w0' (by omega) (by omega) (by omega) (by omega) hT.sg hL).mono fun b d hh => ?_
    obtain ⟨rfl, rfl⟩ := hh
    repeat (walk_at "to")
    try (walk_at "ev0")
    have hlen : (cellsL (h + 1 - h') (w + 1 - w') tt).length ≤ 40 * 40 := Nat.le_trans cellsL_len (Nat.mul_le_mul (by omega) (by omega))
    have hin : ∀ p ∈ cellsL (h + 1 - h') (w + 1 - w') tt, p.1 < 1000 ∧ p.2 < 1000 := fun p hp => by
      have := cells_mem hp
      omega
    generalize hps : cellsL (h + 1 - h') (w + 1 - w') tt = ps at hlen hin ⊢
    refine ws_mid (fun g => ∃ due o11, g = [.im (.ro ns), .im (.int k), .mu p2, .im (.int f3), .im (.int wide), .im (.int h), .im (lstS (tab h w T)), .im (.int h'), .im (lstS (tab h' w' L)), .im (.lst (ps.map (nD h' w' T L))), .im due, opt o11, .no, .no, opt o14, opt o15, .no, opt o17] ∧ Due h' w' T L ps due) ?_ fun g hv => ?_
    · repeat (walk_at "ev1")
      try (walk_at "ev0")
      refine wo_ne (eq_nil ps) ?_
      repeat (walk_at "ev1")
      by_cases e : ps = []
      · rw [decide_eq_true e]
        repeat (walk_at "ev1")
        exact ⟨_, o11, rfl, .inl ⟨e, rfl⟩⟩
      · rw [decide_eq_false e]
        repeat (walk_at "ev1")
        try (walk_at "ev0")
        refine comp_filterT (xs := ps) (F := nD h' w' T L) (F' := fun p => .int (num h' w' T L p)) (Pt := fun _ => true) (fun p => [.im (.ro ns), .im (.int k), .mu p2, .im (.int f3), .im (.int wide), .im (.int h), .im (lstS (tab h w T)), .im (.int h'), .im (lstS (tab h' w' L)), .im (.lst (ps.map (nD h' w' T L))), .im .non, opt o11, .im (cD p), .im (.int (num h' w' T L p)), opt o14, opt o15, .no, opt o17]) rfl (by unfold sizeLine; omega) (fun p _ => rfl) (fun p => rfl) (fun p => rfl) (fun p hp => ?_) (fun p hp _ => ?_) ?_
        · exact we_c.mpr ⟨rfl, rfl⟩
        · repeat (walk_at "ev1")
        rw [List.filter_eq_self.mpr fun _ _ => rfl]
        repeat (walk_at "ev1")
        obtain ⟨M, ⟨q, hq, hMq⟩, hM⟩ := min_numB (ps := ps) (num h' w' T L) e
        have hMb : M ≤ 10000 := by
          rw [hMq]
          exact Nat.le_trans cellsL_len (by omega)
        refine wo_mk hM ?_
        repeat (walk_at "ev1")
        try (walk_at "ev0")
        refine comp_filterT (xs := ps) (F := nD h' w' T L) (F' := cD) (Pt := fun p => decide (num h' w' T L p = M)) (fun p => [.im (.ro ns), .im (.int k), .mu p2, .im (.int f3), .im (.int wide), .im (.int h), .im (lstS (tab h w T)), .im (.int h'), .im (lstS (tab h' w' L)), .im (.lst (ps.map (nD h' w' T L))), .im .non, .im (.int M), .im (cD p), .im (.int (num h' w' T L p)), opt o14, opt o15, .no, opt o17]) rfl (by unfold sizeLine; omega) (fun p _ => rfl) (fun p => rfl) (fun p => rfl) (fun p hp => ?_) (fun p hp _ => ?_) ?_
        · refine (?_ : WE (mBool _) _ _)
          repeat (walk_at "ev1")
          exact ⟨congrArg D.bl (decide_eq_decide.mpr (by omega)), rfl⟩
        · repeat (walk_at "ev1")
        repeat (walk_at "ev1")
        try (walk_at "ev0")
        exact ⟨_, some _, rfl, .inr ⟨M, e, hMb, hM, rfl⟩⟩
    obtain ⟨due, o11, rfl, hdue⟩ := hv
    have hr : ∃ s, ∀ {P : Bool → D → Prop}, P false (.str s) → WO (reprA [due]) P := by
      rcases hdue with ⟨_, rfl⟩ | ⟨M, _, hMb, _, rfl⟩
      · exact th_repr th_non rfl (by decide) (by decide)
      · have hfl : (ps.filter fun p => decide (num h' w' T L p = M)).length ≤ 40 * 40 := Nat.le_trans (List.length_filter_le _ _) hlen
        have ok : okTh (([D.int M, D.lst ((ps.filter fun p => decide (num h' w' T L p = M)).map cD)] : List D).length * (132800 + 1)) (2 + 1) (.tup [.int M, .lst ((ps.filter fun p => decide (num h' w' T L p = M)).map cD)]) := th_tup (W := 132800) (K := 2) fun e he => by
          rcases List.mem_cons.mp he with rfl | he
          · exact (th_int (by omega)).mono (by omega) (by omega)
          · rw [List.mem_singleton.mp he]
            exact (repr_cells (ps.filter fun p => decide (num h' w' T L p = M)) (by omega) fun p hp => hin p (List.mem_filter.mp hp).1).mono (by omega) (by omega)
        exact th_repr (ok.mono (W' := 1000000) (K' := 10) (by rw [List.length_cons, List.length_singleton]; omega) (by decide)) rfl (by decide) (by decide)
    obtain ⟨s, hs⟩ := hr
    repeat (walk_at "to")
    try (walk_at "ev0")
    refine ws_range (n := 2) (fun a g => ∃ o15, g = [.im (.ro ns), .im (.int k), .mu p2, .im (.int f3), .im (.int wide), .im (.int h), .im (lstS (tab h w T)), .im (.int h'), .im (lstS (tab h' w' L)), .im (.lst (ps.map (nD h' w' T L))), .im due, opt o11, .no, .no, .im (.lst [lstS (tab h w T), lstS (tab h' w' L)]), opt o15, .no, opt o17]) (by decide) ⟨o15, rfl⟩ (fun a g ha hv => ?_) fun g hv => ?_
    · obtain ⟨o15, rfl⟩ := hv
      repeat (walk_at "ev1")
      refine ws_fresh ?_
      repeat (walk_at "tx")
      refine ⟨⟨by show (txts _ && (txts _ && true)) = true; rw [txts_tab h0, txts_tab h0']; rfl, by simp only [List.set_cons_succ, List.set_cons_zero, free_suc, free_no]⟩, ?_⟩
      try (walk_at "ev0")
      refine (nearest_ok h0 w0 h0' w0' (by omega) (by omega) (by omega) (by omega) hT hL).mono fun n d hh => ?_
      rw [hps] at hh
      have hd : d = due := by
        rcases hdue with ⟨e, rfl⟩ | ⟨M, e, _, hM, rfl⟩
        · exact hh.1 e
        · exact hh.2 M e hM
      subst hd
      clear hh
      repeat (walk_at "ev1")
      refine hs ?_
      repeat (walk_at "ev1")
      refine hs ?_
      refine wo_neZself ?_
      repeat (walk_at "ev1")
      rcases hdue with ⟨e, rfl⟩ | ⟨M, e, hMb, hM, rfl⟩
      · repeat (walk_at "ev1")
        exact .inl ⟨rfl, some _, rfl⟩
      · have hfl : (ps.filter fun p => decide (num h' w' T L p = M)).length ≤ 40 * 40 := Nat.le_trans (List.length_filter_le _ _) hlen
        repeat (walk_at "ev1")
        refine .inr ⟨rfl, ?_, ⟨_, _, rfl⟩, some _, rfl⟩
        show (((ps.filter fun p => decide (num h' w' T L p = M)).map cD).all isTupD && decide (((ps.filter fun p => decide (num h' w' T L p = M)).map cD).length < sizeLine)) = true
        rw [Bool.and_eq_true]
        refine ⟨List.all_eq_true.mpr fun d hd => ?_, decide_eq_true (by rw [List.length_map]; unfold sizeLine; omega)⟩
        obtain ⟨q, _, rfl⟩ := List.mem_map.mp hd
        rfl
    obtain ⟨o15, rfl⟩ := hv
    repeat (walk_at "to")
    refine ws_mid (fun g => ∃ p, g = [.im (.ro ns), .im (.int k), .mu p, .im (.int f3), .im (.int wide), .im (.int h), .im (lstS (tab h w T)), .im (.int h'), .im (lstS (tab h' w' L)), .im (.lst (ps.map (nD h' w' T L))), .im due, opt o11, .no, .no, .im (.lst [lstS (tab h w T), lstS (tab h' w' L)]), opt o15, .no, opt o17] ∧ PoolN 4000 p) ?_ fun g hv => ?_
    · repeat (walk_at "ev1")
      try (walk_at "ev0")
      refine (some_ok (ps := ps) (far := f3) hp (by omega) (by omega)).mono fun b r p3 hh => ?_
      clear hp
      obtain ⟨⟨qs, rfl, hq, hql⟩, hp⟩ := hh
      repeat (walk_at "ev1")
      try (walk_at "ev0")
      refine comp_filterT (xs := ps) (F := nD h' w' T L) (F' := cD) (Pt := fun _ => true) (fun p => [.im (.ro ns), .im (.int k), .mu p3, .im (.int f3), .im (.int wide), .im (.int h), .im (lstS (tab h w T)), .im (.int h'), .im (lstS (tab h' w' L)), .im (.lst (ps.map (nD h' w' T L))), .im due, opt o11, .im (cD p), .im (.int (num h' w' T L p)), .im (.lst [lstS (tab h w T), lstS (tab h' w' L)]), opt o15, .no, opt o17]) rfl (by unfold sizeLine; omega) (fun p _ => rfl) (fun p => rfl) (fun p => rfl) (fun p hp => ?_) (fun p hp _ => ?_) ?_
      · exact we_c.mpr ⟨rfl, rfl⟩
      · repeat (walk_at "ev1")
      rw [List.filter_eq_self.mpr fun _ _ => rfl]
      repeat (walk_at "ev1")
      try (walk_at "ev0")
      rw [← hps] at hq ⊢
      refine (cells_right h0 w0 h0' w0' (by omega) (by omega) (by omega) (by omega) hT hL hp (by omega) hq).mono fun b r p4 hh => ?_
      clear hp
      obtain ⟨rfl, hp⟩ := hh
      repeat (walk_at "ev1")
      try (walk_at "ev0")
      exact hp.le (by omega)
    clear hp
    obtain ⟨p3, rfl, hp⟩ := hv
    repeat (walk_at "to")
    try (walk_at "ev0")
    refine wo_ixL (j := 0) (tabS_get h0') rfl ?_
    repeat (walk_at "to")
    refine wo_lenS txt_len (by unfold sizeLine; omega) ?_
    rw [List.length_map, tab_len]
    repeat (walk_at "to")
    try (walk_at "ev0")
    obtain ⟨most, em, hm⟩ : ∃ most : Nat, (h' : Int) * (w' : Int) = most ∧ most < 10000 := ⟨h' * w', (Int.natCast_mul _ _).symm, by omega⟩
    rw [em]
    obtain ⟨few, ef⟩ : ∃ few : Nat, ([.int 6, .int 1] : List D)[f3]? = some (.int few) := by
      rcases f3 with _ | _ | f3
      · exact ⟨6, rfl⟩
      · exact ⟨1, rfl⟩
      · omega
    have okT : okL (tab h w T) := tab_ok fun i j hi hj => by have := (hT i j hi hj).1; omega
    have okL' : okL (tab h' w' L) := tab_ok fun i j hi hj => by have := hL i j hi hj; omega
    repeat (walk_at "ev1")
    try (walk_at "ev0")
    refine wo_ixL ef rfl ?_
    repeat (walk_at "ev1")
    try (walk_at "ev0")
    rw [← hps]
    refine (near_right h0 w0 h0' w0' (by omega) (by omega) (by omega) (by omega) hT hL hp (by omega) hm).mono fun b r p4 hh => ?_
    subst hh
    repeat (walk_at "ev1")
    try (walk_at "ev0")
    refine wo_ne (eq_LL (xss := [tab h w T, tab h' w' L]) (fun xs hx => by
      rcases List.mem_cons.mp hx with rfl | hx
      · exact okT
      · rw [List.mem_singleton.mp hx]; exact okL')) ?_
    repeat (walk_at "ev1")
    exact ⟨some _, some _, some _, some _, some _, some _, some _, some _, some _, some _, o11, some _, o15, some _, rfl⟩
  · obtain ⟨o1, o2, o3, o4, o5, o6, o7, o8, o9, o10, o11, o14, o15, o17, rfl⟩ := hv
    repeat (walk_at "ev1")
end K26
set_option Elab.async false
set_option linter.all false
set_option maxRecDepth 100000
open PySem PySem.W PyProof.Rows
set_option maxRecDepth 100000 in
set_option maxHeartbeats 0 in
theorem PySem.Challenge.cw_tablefind_k26_nearly_standing_holds : PySem.Challenge.rw_tablefind_k26_nearly_standing.Holds := by
  w_on; o_law; k_head; (case hw => w_witness2)
  k_fill
  refine TL.walkDG (l := PySem.Challenge.rw_tablefind_k26_nearly_standing) (lvl := 9) (N := 18) (F := K26.m_law) rfl rfl K26.pure_law ⟨rfl, by decide, by decide⟩ (fun w h Y => PySem.W.kIn_of Y) ?F
  case F =>
    intro w mg fa h KX G hmg
    refine' K26.all_mk KX G hmg ?a0 ?l0 ?c0 ?q0 ?a1 ?l1 ?c1 ?q1 ?a2 ?l2 ?c2 ?q2 ?a3 ?l3 ?c3 ?q3 ?a4 ?l4 ?c4 ?q4 ?a5 ?l5 ?c5 ?q5 ?a6 ?l6 ?c6 ?q6 ?a7 ?l7 ?c7 ?q7 ?a8 ?l8 ?c8 ?q8 ?a9 ?l9 ?c9 ?q9 ?a10 ?l10 ?c10 ?q10 ?a11 ?l11 ?c11 ?q11 ?a12 ?l12 ?c12 ?q12 ?a13 ?l13 ?c13 ?q13 ?a14 ?l14 ?c14 ?q14 ?a15 ?l15 ?c15 ?q15 ?a16 ?l16 ?c16 ?q16 ?a17 ?l17 ?c17 ?q17 ?a18 ?l18 ?c18 ?q18 ?a19 ?l19 ?c19 ?q19 ?a20 ?l20 ?c20 ?q20 ?a21 ?l21 ?c21 ?q21 ?a22 ?l22 ?c22 ?q22 ?a23 ?l23 ?c23 ?q23 ?a24 ?l24 ?c24 ?q24 ?a25 ?l25 ?c25 ?q25 ?a26 ?l26 ?c26 ?q26 ?a27 ?l27 ?c27 ?q27 ?a28 ?l28 ?c28 ?q28 ?z_ValueError ?z_all ?z_bool ?z_enumerate ?z_int ?z_isinstance ?z_len ?z_list ?z_max ?z_min ?z_range ?z_repr ?z_str ?z_tuple ?z_type ?z_zip ?m_NoCell ?xe_NoCell ?ke_NoCell ?be_NoCell ?te_NoCell ?hd_NoCell ?hg_NoCell ?hk_NoCell ?ha_NoCell ?hm_NoCell ?sv_NoCell ?sf_NoCell ?m_NoNumber ?xe_NoNumber ?ke_NoNumber ?be_NoNumber ?te_NoNumber ?hd_NoNumber ?hg_NoNumber ?hk_NoNumber ?ha_NoNumber ?hm_NoNumber ?sv_NoNumber ?sf_NoNumber ?m_NoPose ?te_NoPose ?hd_NoPose ?m_NoTable ?xe_NoTable ?ke_NoTable ?be_NoTable ?te_NoTable ?hd_NoTable ?hg_NoTable ?hk_NoTable ?ha_NoTable ?hm_NoTable ?sv_NoTable ?sf_NoTable ?m_TableError ?be_TableError ?te_TableError ?hd_TableError ?m_TooMany ?te_TooMany ?hd_TooMany ?hn_ ?ht_ ?sb_NoCell_NoNumber ?sb_NoCell_NoPose ?sb_NoCell_NoTable ?sb_NoCell_TableError ?sb_NoCell_TooMany ?sb_NoNumber_NoCell ?sb_NoNumber_NoPose ?sb_NoNumber_NoTable ?sb_NoNumber_TableError ?sb_NoNumber_TooMany ?sb_NoTable_NoCell ?sb_NoTable_NoNumber ?sb_NoTable_NoPose ?sb_NoTable_TableError ?sb_NoTable_TooMany ?m_FREE
    (case a0 => k_is)
    (case l0 => k_is)
    (case c0 => k_is)
    (case q0 => k_is)
    (case a1 => k_is)
    (case l1 => k_is)
    (case c1 => k_is)
    (case q1 => k_is)
    (case a2 => k_is)
    (case l2 => k_is)
    (case c2 => k_is)
    (case q2 => k_is)
    (case a3 => k_is)
    (case l3 => k_is)
    (case c3 => k_is)
    (case q3 => k_is)
    (case a4 => k_is)
    (case l4 => k_is)
    (case c4 => k_is)
    (case q4 => k_is)
    (case a5 => k_is)
    (case l5 => k_is)
    (case c5 => k_is)
    (case q5 => k_is)
    (case a6 => k_is)
    (case l6 => k_is)
    (case c6 => k_is)
    (case q6 => k_is)
    (case a7 => k_is)
    (case l7 => k_is)
    (case c7 => k_is)
    (case q7 => k_is)
    (case a8 => k_is)
    (case l8 => k_is)
    (case c8 => k_is)
    (case q8 => k_is)
    (case a9 => k_is)
    (case l9 => k_is)
    (case c9 => k_is)
    (case q9 => k_is)
    (case a10 => k_is)
    (case l10 => k_is)
    (case c10 => k_is)
    (case q10 => k_is)
    (case a11 => k_is)
    (case l11 => k_is)
    (case c11 => k_is)
    (case q11 => k_is)
    (case a12 => k_is)
    (case l12 => k_is)
    (case c12 => k_is)
    (case q12 => k_is)
    (case a13 => k_is)
    (case l13 => k_is)
    (case c13 => k_is)
    (case q13 => k_is)
    (case a14 => k_is)
    (case l14 => k_is)
    (case c14 => k_is)
    (case q14 => k_is)
    (case a15 => k_is)
    (case l15 => k_is)
    (case c15 => k_is)
    (case q15 => k_is)
    (case a16 => k_is)
    (case l16 => k_is)
    (case c16 => k_is)
    (case q16 => k_is)
    (case a17 => k_is)
    (case l17 => k_is)
    (case c17 => k_is)
    (case q17 => k_is)
    (case a18 => k_is)
    (case l18 => k_is)
    (case c18 => k_is)
    (case q18 => k_is)
    (case a19 => k_is)
    (case l19 => k_is)
    (case c19 => k_is)
    (case q19 => k_is)
    (case a20 => k_is)
    (case l20 => k_is)
    (case c20 => k_is)
    (case q20 => k_is)
    (case a21 => k_is)
    (case l21 => k_is)
    (case c21 => k_is)
    (case q21 => k_is)
    (case a22 => k_is)
    (case l22 => k_is)
    (case c22 => k_is)
    (case q22 => k_is)
    (case a23 => k_is)
    (case l23 => k_is)
    (case c23 => k_is)
    (case q23 => k_is)
    (case a24 => k_is)
    (case l24 => k_is)
    (case c24 => k_is)
    (case q24 => k_is)
    (case a25 => k_is)
    (case l25 => k_is)
    (case c25 => k_is)
    (case q25 => k_is)
    (case a26 => k_is)
    (case l26 => k_is)
    (case c26 => k_is)
    (case q26 => k_is)
    (case a27 => k_is)
    (case l27 => k_is)
    (case c27 => k_is)
    (case q27 => k_is)
    (case a28 => k_is)
    (case l28 => k_is)
    (case c28 => k_is)
    (case q28 => k_is)
    (case z_ValueError => k_is)
    (case z_all => k_is)
    (case z_bool => k_is)
    (case z_enumerate => k_is)
    (case z_int => k_is)
    (case z_isinstance => k_is)
    (case z_len => k_is)
    (case z_list => k_is)
    (case z_max => k_is)
    (case z_min => k_is)
    (case z_range => k_is)
    (case z_repr => k_is)
    (case z_str => k_is)
    (case z_tuple => k_is)
    (case z_type => k_is)
    (case z_zip => k_is)
    (case m_NoCell => k_is)
    (case xe_NoCell => k_exc)
    (case ke_NoCell => k_is)
    (case be_NoCell => k_is)
    (case te_NoCell => k_is)
    (case hd_NoCell => k_is)
    (case hg_NoCell => k_is)
    (case hk_NoCell => k_is)
    (case ha_NoCell => k_is)
    (case hm_NoCell => k_is)
    (case sv_NoCell => k_is)
    (case sf_NoCell => k_is)
    (case m_NoNumber => k_is)
    (case xe_NoNumber => k_exc)
    (case ke_NoNumber => k_is)
    (case be_NoNumber => k_is)
    (case te_NoNumber => k_is)
    (case hd_NoNumber => k_is)
    (case hg_NoNumber => k_is)
    (case hk_NoNumber => k_is)
    (case ha_NoNumber => k_is)
    (case hm_NoNumber => k_is)
    (case sv_NoNumber => k_is)
    (case sf_NoNumber => k_is)
    (case m_NoPose => k_is)
    (case te_NoPose => k_is)
    (case hd_NoPose => k_is)
    (case m_NoTable => k_is)
    (case xe_NoTable => k_exc)
    (case ke_NoTable => k_is)
    (case be_NoTable => k_is)
    (case te_NoTable => k_is)
    (case hd_NoTable => k_is)
    (case hg_NoTable => k_is)
    (case hk_NoTable => k_is)
    (case ha_NoTable => k_is)
    (case hm_NoTable => k_is)
    (case sv_NoTable => k_is)
    (case sf_NoTable => k_is)
    (case m_TableError => k_is)
    (case be_TableError => k_is)
    (case te_TableError => k_is)
    (case hd_TableError => k_is)
    (case m_TooMany => k_is)
    (case te_TooMany => k_is)
    (case hd_TooMany => k_is)
    (case hn_ => k_is)
    (case ht_ => k_is)
    (case sb_NoCell_NoNumber => k_is)
    (case sb_NoCell_NoPose => k_is)
    (case sb_NoCell_NoTable => k_is)
    (case sb_NoCell_TableError => k_is)
    (case sb_NoCell_TooMany => k_is)
    (case sb_NoNumber_NoCell => k_is)
    (case sb_NoNumber_NoPose => k_is)
    (case sb_NoNumber_NoTable => k_is)
    (case sb_NoNumber_TableError => k_is)
    (case sb_NoNumber_TooMany => k_is)
    (case sb_NoTable_NoCell => k_is)
    (case sb_NoTable_NoNumber => k_is)
    (case sb_NoTable_NoPose => k_is)
    (case sb_NoTable_TableError => k_is)
    (case sb_NoTable_TooMany => k_is)
    (case m_FREE => k_is)
